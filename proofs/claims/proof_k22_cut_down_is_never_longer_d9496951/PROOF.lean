import PyProof.Rows.All
import Wide.All
import OpenK.AllK
import Wide.FinOn
import PySem.Challenge.RW_forkspan_k22_cut_down_is_never_longer
import HandS.ForMost
import HandS.ForExc
import HandS.Flow
import HandS.IsInst
import HandS.ExcInit
import HandS.ExcField
import HandS.ExcCtx
import HandS.HotCalls
import HandS.ExcInitHot
import HandS.Style
import HandS.TupAny
import HandS.Wide
import HandS.Steps
import HandS.Deep
import HandS.Conv
import HandS.Iter
import HandS.DictComp
import HandS.More
import HandS.MakeKwOnly
import HandS.List
import HandS.SortInts
import HandS.Dict
import HandS.Set
import HandS.Strs
import PyProof.Rows.SetFrom
import PyProof.Rows.SortShellAny
import KE.GoesEnum
import HandS.SetFor
import PyProof.ListRange
import HandS.Sort
import KE.DataMinMax
import HandS.SortKw
import HandS.RevRange
import PyProof.DictCompW
import HandS.Flt
set_option Elab.async false
set_option linter.all false
set_option maxRecDepth 100000
set_option maxHeartbeats 8000000
namespace L2
open PySem PySem.Spec PyProof.Rows

abbrev D := PyData
abbrev Kf := PySem.W.Frag
/-! ### the heap without what is owned -/
def hid (H : Hp) (L : List Addr) : Hp := fun a => if a ∈ L then none else H a
theorem hid_in {H : Hp} {L : List Addr} {a : Addr} (h : a ∈ L) : hid H L a = none := if_pos h
theorem hid_out {H : Hp} {L : List Addr} {a : Addr} (h : a ∉ L) : hid H L a = H a := if_neg h
theorem hid_nil {H : Hp} : hid H [] = H := by
  funext a
  exact hid_out (by simp)
theorem hid_some {H : Hp} {L : List Addr} {a : Addr} {o : HO} (h : hid H L a = some o) : a ∉ L ∧ H a = some o := by
  by_cases e : a ∈ L
  · rw [hid_in e] at h; cases h
  · rw [hid_out e] at h; exact ⟨e, h⟩
theorem hid_same {H : Hp} {L : List Addr} : Same (hid H L) H := fun _ _ h => (hid_some h).2
theorem hid_less {H : Hp} {L L' : List Addr} (h : ∀ a ∈ L', a ∈ L) : Same (hid H L) (hid H L') := fun a o e => by
  obtain ⟨n, e⟩ := hid_some e
  rw [hid_out fun z => n (h a z)]
  exact e
theorem hid_mono {H H' : Hp} {L : List Addr} (s : Same H H') : Same (hid H L) (hid H' L) := fun a o e => by
  obtain ⟨n, e⟩ := hid_some e
  rw [hid_out n]
  exact s a o e
/-- what is owned may change -/
theorem hid_upd {H : Hp} {L : List Addr} {a : Addr} {o : HO} (h : a ∈ L) : hid (upd H a o) L = hid H L := by
  funext b
  by_cases e : b ∈ L
  · rw [hid_in e, hid_in e]
  · rw [hid_out e, hid_out e, upd_ne (fun z => e (by rw [z]; exact h))]
/-- a new object is laid -/
theorem hid_new {H : Hp} {L : List Addr} {a : Addr} {o : HO} (n : H a = none) : Same (hid H L) (hid (upd H a o) (a :: L)) := fun b u e => by
  obtain ⟨m, e⟩ := hid_some e
  have hb : b ≠ a := ne_of_none e n
  rw [hid_out (by simp [hb, m]), upd_ne hb]
  exact e
theorem same_new {H : Hp} {a : Addr} {o : HO} (n : H a = none) : Same H (upd H a o) := fun b u e => by
  rw [upd_ne (ne_of_none e n)]
  exact e

/-! ### data -/
/- as Dp, every list tracked; the script -/
def scrD (ns : List Int) : D := .dict [(.none, .list (ns.map .int))]
/-- the key as data -/
def kD : Key → D
  | .inl i => .int i
  | .inr s => .str s
/-- what hangs on no heap -/
inductive AtV : V → D → Prop
  | non : AtV .non .none
  | bl (b : Bool) : AtV (.bl b) (.bool b)
  | int (i : Int) : AtV (.int i) (.int i)
  | str (x : Str) : AtV (.str x) (.str x)
/-- a dict whose values hang on no heap -/
abbrev KA : List (Key × V) → List (Key × D) → Prop := Paired fun p q => p.1 = q.1 ∧ AtV p.2 q.2
mutual
inductive Dq (K : Kf) (H : Hp) : V → D → Prop
  | non : Dq K H .non .none
  | bl (b : Bool) : Dq K H (.bl b) (.bool b)
  | int (i : Int) : Dq K H (.int i) (.int i)
  | str (x : Str) : Dq K H (.str x) (.str x)
  | lst {a : Addr} {xs : List V} {ds : List D} : H a = some (.lst xs) → DqAll K H xs ds → Dq K H (.ref a) (.list ds)
  | tup {a : Addr} {xs : List V} {ds : List D} : SqT K H a xs → DqAll K H xs ds → Dq K H (.ref a) (.tuple ds)
  | scr {a : Addr} {ns : List Int} : SqL K H a (ns.map V.int) → Dq K H (.ref a) (.dict [(.none, .list (ns.map .int))])
  | dct {a : Addr} {kvs : List (Key × V)} {kds : List (Key × D)} : H a = some (.dK kvs) → KA kvs kds → Dq K H (.ref a) (.dict (kds.map fun p => (kD p.1, p.2)))
inductive DqAll (K : Kf) (H : Hp) : List V → List D → Prop
  | nil : DqAll K H [] []
  | cons {v : V} {vs : List V} {d : D} {ds : List D} : Dq K H v d → DqAll K H vs ds → DqAll K H (v :: vs) (d :: ds)
end
/- data without the script -/
mutual
def plain : D → Bool
  | .none => true
  | .bool _ => true
  | .int _ => true
  | .str _ => true
  | .list ds => plains ds
  | .tuple ds => plains ds
  | .dict _ => false
def plains : List D → Bool
  | [] => true
  | d :: ds => plain d && plains ds
end
mutual
theorem Dq.dp {K : Kf} {H : Hp} : ∀ (d : D) {v : V}, plain d = true → Dq K H v d → Dp K H v d
  | .none, _, _, h => by cases h; exact .non
  | .bool b, _, _, h => by cases h; exact .bl b
  | .int i, _, _, h => by cases h; exact .int i
  | .str x, _, _, h => by cases h; exact .str x
  | .list ds, _, p, h => by
    cases h with
    | lst hs ha => exact .lst (.of hs) (DqAll.dp ds (by simpa [plain] using p) ha)
  | .tuple ds, _, p, h => by
    cases h with
    | tup hs ha => exact .tup hs (DqAll.dp ds (by simpa [plain] using p) ha)
  | .dict _, _, p, _ => by simp [plain] at p
theorem DqAll.dp {K : Kf} {H : Hp} : ∀ (ds : List D) {vs : List V}, plains ds = true → DqAll K H vs ds → DpAll K H vs ds
  | [], _, _, h => by cases h; exact .nil
  | d :: ds, _, p, h => by
    simp only [plains, Bool.and_eq_true] at p
    cases h with
    | cons h1 h2 => exact .cons (Dq.dp d p.1 h1) (DqAll.dp ds p.2 h2)
end
theorem rd_mono {H H' : Hp} {a : Addr} {u : HO} (s : Same H H') (h : Rd H a u) : Rd H' a u := by
  rcases h with h | ⟨o, h⟩
  · exact .inl (s _ _ h)
  · exact .inr ⟨o, s _ _ h⟩
mutual
theorem Dq.mono {K : Kf} {H H' : Hp} (s : Same H H') : ∀ (d : D) {v : V}, Dq K H v d → Dq K H' v d
  | .none, _, h => by cases h; exact .non
  | .bool b, _, h => by cases h; exact .bl b
  | .int i, _, h => by cases h; exact .int i
  | .str x, _, h => by cases h; exact .str x
  | .list ds, _, h => by
    cases h with
    | lst hs ha => exact .lst (s _ _ hs) (DqAll.mono s ds ha)
  | .tuple ds, _, h => by
    cases h with
    | tup hs ha =>
      refine .tup ?_ (DqAll.mono s ds ha)
      rcases hs with (h | ⟨o, h⟩) | h
      · exact .inl (.inl (s _ _ h))
      · exact .inl (.inr ⟨o, s _ _ h⟩)
      · exact .inr h
  | .dict _, _, h => by
    cases h with
    | scr hs => exact .scr (s.seq hs)
    | dct ho hk => exact .dct (s _ _ ho) hk
theorem DqAll.mono {K : Kf} {H H' : Hp} (s : Same H H') : ∀ (ds : List D) {vs : List V}, DqAll K H vs ds → DqAll K H' vs ds
  | [], _, h => by cases h; exact .nil
  | d :: ds, _, h => by
    cases h with
    | cons h1 h2 => exact .cons (Dq.mono s d h1) (DqAll.mono s ds h2)
end
theorem sqT_mono {K : Kf} {H H' : Hp} {a : Addr} {xs : List V} (s : Same H H') (hs : SqT K H a xs) : SqT K H' a xs := by
  rcases hs with (h | ⟨o, h⟩) | h
  · exact .inl (.inl (s _ _ h))
  · exact .inl (.inr ⟨o, s _ _ h⟩)
  · exact .inr h
/- no list within -/
mutual
def flat : D → Bool
  | .none => true
  | .bool _ => true
  | .int _ => true
  | .str _ => true
  | .list _ => false
  | .tuple ds => flats ds
  | .dict _ => false
def flats : List D → Bool
  | [] => true
  | d :: ds => flat d && flats ds
end
/-- lists (dicts) stand at the owned places -/
def Owns (H : Hp) (L : List Addr) : Prop := ∀ a ∈ L, (∃ xs, H a = some (.lst xs)) ∨ ∃ kvs, H a = some (.dK kvs)
mutual
theorem Dq.flat_hid {K : Kf} {H : Hp} {L : List Addr} (w : Owns H L) : ∀ (d : D) {v : V}, flat d = true → Dq K H v d → Dq K (hid H L) v d
  | .none, _, _, h => by cases h; exact .non
  | .bool b, _, _, h => by cases h; exact .bl b
  | .int i, _, _, h => by cases h; exact .int i
  | .str x, _, _, h => by cases h; exact .str x
  | .list ds, _, f, h => by simp [flat] at f
  | .tuple ds, _, f, h => by
    cases h with
    | @tup a xs _ hs ha =>
      refine .tup ?_ (DqAll.flat_hid w ds (by simpa [flat] using f) ha)
      have key : ∀ o, H a = some o → (∀ xs, o ≠ .lst xs) → (∀ kvs, o ≠ .dK kvs) → hid H L a = some o := fun o e n1 n2 => by
        rw [hid_out fun z => ?_]
        · exact e
        · rcases w a z with ⟨xs, q⟩ | ⟨kvs, q⟩
          · rw [e] at q; exact n1 _ (Option.some.inj q)
          · rw [e] at q; exact n2 _ (Option.some.inj q)
      rcases hs with (h | ⟨o, h⟩) | h
      · exact .inl (.inl (key _ h (fun _ z => by cases z) fun _ z => by cases z))
      · exact .inl (.inr ⟨o, key _ h (fun _ z => by cases z) fun _ z => by cases z⟩)
      · exact .inr h
  | .dict _, _, f, _ => by simp [flat] at f
theorem DqAll.flat_hid {K : Kf} {H : Hp} {L : List Addr} (w : Owns H L) : ∀ (ds : List D) {vs : List V}, flats ds = true → DqAll K H vs ds → DqAll K (hid H L) vs ds
  | [], _, _, h => by cases h; exact .nil
  | d :: ds, _, f, h => by
    simp only [flats, Bool.and_eq_true] at f
    cases h with
    | cons h1 h2 => exact .cons (Dq.flat_hid w d f.1 h1) (DqAll.flat_hid w ds f.2 h2)
end
theorem DqAll.length {K : Kf} {H : Hp} : ∀ {vs : List V} {ds : List D}, DqAll K H vs ds → vs.length = ds.length
  | _, _, .nil => rfl
  | _, _, .cons _ h => congrArg (· + 1) h.length
theorem DqAll.get {K : Kf} {H : Hp} : ∀ {vs : List V} {ds : List D} {i : Nat} {d : D}, DqAll K H vs ds → ds[i]? = some d → ∃ v, vs[i]? = some v ∧ Dq K H v d
  | _, _, _, _, .nil, e => by simp at e
  | _, _, 0, _, .cons h _, e => by simp at e; subst e; exact ⟨_, rfl, h⟩
  | _, _, i + 1, _, .cons _ t, e => by
    obtain ⟨v, h1, h2⟩ := DqAll.get (i := i) t (by simpa using e)
    exact ⟨v, by simpa using h1, h2⟩
theorem DqAll.getv {K : Kf} {H : Hp} : ∀ {vs : List V} {ds : List D} {i : Nat} {v : V}, DqAll K H vs ds → vs[i]? = some v → ∃ d, ds[i]? = some d ∧ Dq K H v d
  | _, _, _, _, .nil, e => by simp at e
  | _, _, 0, _, .cons h _, e => by simp at e; subst e; exact ⟨_, rfl, h⟩
  | _, _, i + 1, _, .cons _ t, e => by
    obtain ⟨v, h1, h2⟩ := DqAll.getv (i := i) t (by simpa using e)
    exact ⟨v, by simpa using h1, h2⟩
theorem DqAll.append {K : Kf} {H : Hp} : ∀ {vs ws : List V} {ds es : List D}, DqAll K H vs ds → DqAll K H ws es → DqAll K H (vs ++ ws) (ds ++ es)
  | _, _, _, _, .nil, h => h
  | _, _, _, _, .cons h t, h2 => .cons h (DqAll.append t h2)
theorem DqAll.take {K : Kf} {H : Hp} : ∀ {vs : List V} {ds : List D} (n : Nat), DqAll K H vs ds → DqAll K H (vs.take n) (ds.take n)
  | _, _, 0, _ => .nil
  | _, _, _ + 1, .nil => .nil
  | _, _, n + 1, .cons h t => .cons h (DqAll.take n t)
theorem DqAll.drop {K : Kf} {H : Hp} : ∀ {vs : List V} {ds : List D} (n : Nat), DqAll K H vs ds → DqAll K H (vs.drop n) (ds.drop n)
  | _, _, 0, h => h
  | _, _, _ + 1, .nil => .nil
  | _, _, n + 1, .cons _ t => DqAll.drop n t
theorem DqAll.dropLast {K : Kf} {H : Hp} : ∀ {vs : List V} {ds : List D}, DqAll K H vs ds → DqAll K H vs.dropLast ds.dropLast
  | _, _, .nil => .nil
  | _, _, .cons _ .nil => .nil
  | _, _, .cons h (.cons h2 t) => .cons h (DqAll.dropLast (.cons h2 t))
theorem DqAll.reverse {K : Kf} {H : Hp} : ∀ {vs : List V} {ds : List D}, DqAll K H vs ds → DqAll K H vs.reverse ds.reverse
  | _, _, .nil => .nil
  | _, _, .cons h t => by
    rw [List.reverse_cons, List.reverse_cons]
    exact (DqAll.reverse t).append (.cons h .nil)
theorem DqAll.set {K : Kf} {H : Hp} {v : V} {d : D} (h : Dq K H v d) : ∀ {vs : List V} {ds : List D} (i : Nat), DqAll K H vs ds → DqAll K H (vs.set i v) (ds.set i d)
  | _, _, _, .nil => .nil
  | _, _, 0, .cons _ t => .cons h t
  | _, _, i + 1, .cons q t => .cons q (DqAll.set h i t)

/-! ### what stands in a slot, what an expression gives -/
/-- an owned object -/
inductive OB where
  | lst (ds : List D)
  | dct (kvs : List (Key × D))
inductive SV where
  /-- data, seen by all -/
  | d (d : D)
  /-- an object that nobody else sees -/
  | own (o : OB)
  /-- the owned object of slot i -/
  | bor (i : Nat)
abbrev En := List (Option SV)
def KD (K : Kf) (H : Hp) : List (Key × V) → List (Key × D) → Prop := Paired fun p q => p.1 = q.1 ∧ Dq K H p.2 q.2
theorem AtV.dq {K : Kf} {H : Hp} {v : V} {d : D} (h : AtV v d) : Dq K H v d := by
  cases h <;> constructor
theorem KA.kd {K : Kf} {H : Hp} : ∀ {kvs : List (Key × V)} {kds : List (Key × D)}, KA kvs kds → KD K H kvs kds
  | _, _, .nil => .nil
  | _, _, .cons h t => .cons ⟨h.1, h.2.dq⟩ (KA.kd t)
def isAt : D → Bool
  | .none => true
  | .bool _ => true
  | .int _ => true
  | .str _ => true
  | _ => false
theorem Dq.atv {K : Kf} {H : Hp} {v : V} {d : D} (h : Dq K H v d) (f : isAt d = true) : AtV v d := by
  cases h <;> first | (cases f; done) | constructor
theorem KD.ka {K : Kf} {H : Hp} : ∀ {kvs : List (Key × V)} {kds : List (Key × D)}, KD K H kvs kds → (kds.all fun p => isAt p.2) = true → KA kvs kds
  | _, _, .nil, _ => .nil
  | _, _, .cons h t, f => by
    simp only [List.all_cons, Bool.and_eq_true] at f
    exact .cons ⟨h.1, h.2.atv f.1⟩ (KD.ka t f.2)
def ObR (K : Kf) (H : Hp) : HO → OB → Prop
  | .lst xs, .lst ds => DqAll K H xs ds
  | .dK kvs, .dct kds => KD K H kvs kds
  | _, _ => False
theorem KD.mono {K : Kf} {H H' : Hp} (s : Same H H') {a : List (Key × V)} {b : List (Key × D)} (h : KD K H a b) : KD K H' a b :=
  Paired.mapP h fun _ _ ⟨e, q⟩ => ⟨e, Dq.mono s _ q⟩
theorem ObR.mono {K : Kf} {H H' : Hp} (s : Same H H') {o : HO} {b : OB} (h : ObR K H o b) : ObR K H' o b := by
  cases o with
  | lst xs => cases b with
    | lst ds => exact DqAll.mono s _ h
    | dct _ => exact h.elim
  | dK kvs => cases b with
    | lst ds => exact h.elim
    | dct _ => exact KD.mono s h
  | _ => exact h.elim
theorem ObR.owns {K : Kf} {H : Hp} {o : HO} {b : OB} (h : ObR K H o b) : (∃ xs, o = .lst xs) ∨ ∃ kvs, o = .dK kvs := by
  cases o with
  | lst xs => exact .inl ⟨xs, rfl⟩
  | dK kvs => exact .inr ⟨kvs, rfl⟩
  | _ => exact h.elim
def SlotR (P : Option Addr) (K : Kf) (H : Hp) (L : List Addr) (so : Option (Option V)) : SV → Prop
  | .d d => ∃ v, so = some (some v) ∧ Dq K (hid H L) v d
  | .own b => ∃ a o, so = some (some (.ref a)) ∧ a ∈ L ∧ H a = some o ∧ ObR K (hid H L) o b
  | .bor _ => ∃ a, P = some a ∧ so = some (some (.ref a))
/-- an exception: the name of its class, its fields in the order in which they were put, last first -/
structure Xc where
  cls : Str
  fs : List (Str × D)
/-- what is fixed through a body: B, what callers hide, as HB has it -/
structure Gs where
  K : Kf
  mg : Str → Option Value
  H0 : Hp
  W : WX
  B : List Addr
  HB : Hp
  /-- the exception that a suite holds -/
  px : Option Addr
structure RelS (G : Gs) (L : List Addr) (σ : St) (H : Hp) (en : En) : Prop where
  own : Owns H L
  same : Same G.H0 (hid H L)
  len : σ.length = en.length
  slot : ∀ (i : Nat) (sv : SV), en[i]? = some (some sv) → SlotR G.px G.K H L σ[i]? sv
  apart : ∀ (i j : Nat) (b c : OB) (a : Addr), i ≠ j → en[i]? = some (some (SV.own b)) → en[j]? = some (some (SV.own c)) → σ[i]? = some (some (V.ref a)) → σ[j]? = some (some (V.ref a)) → False
  base : ∀ a ∈ G.B, a ∈ L ∧ H a = G.HB a ∧ ∀ (i : Nat) (c : OB), en[i]? = some (some (SV.own c)) → σ[i]? ≠ some (some (V.ref a))
/-- what an expression's value is -/
def RV (G : Gs) (L : List Addr) (σ : St) (H : Hp) (en : En) (v : V) : SV → Prop
  | .d d => Dq G.K (hid H L) v d
  | .own b => ∃ a o, v = .ref a ∧ a ∈ L ∧ a ∉ G.B ∧ H a = some o ∧ ObR G.K (hid H L) o b ∧ ∀ (i : Nat) (c : OB), en[i]? = some (some (SV.own c)) → σ[i]? ≠ some (some (V.ref a))
  | .bor i => σ[i]? = some (some v) ∧ ∃ b : OB, en[i]? = some (some (SV.own b))
def XR (K : Kf) (mg : Str → Option Value) (x : Xc) (cls : Value) (d : Option Addr) (H : Hp) : Prop :=
  ∃ (C dd : Addr) (fv : List (Str × V)), mg x.cls = some (.ref C) ∧ cls = .ref C ∧ d = some dd ∧ H dd = some (.xd fv) ∧ Paired (fun p q => p.1 = q.1 ∧ Dq K H p.2 q.2) fv x.fs
inductive Rs (α : Type) where
  | ok (a : α) (e : En)
  | exc (x : Xc) (e : En)
  | stuck
abbrev M (α : Type) := En → Rs α
def PostX (G : Gs) (σ0 : St → Prop) (H : Hp) (L : List Addr) (x : Xc) (en' : En) : Prop :=
  ∀ cls d σ H' L', σ0 σ → RelS G L' σ H' en' → Same (hid H L) (hid H' L') → XR G.K G.mg x cls d (hid H' L') → G.W cls d σ H'
def PostE (G : Gs) (σ : St) (H : Hp) (L : List Addr) (r : Rs SV) (Q : VK) : Prop :=
  match r with
  | .ok sv en' => ∀ v H' L', RelS G L' σ H' en' → Same (hid H L) (hid H' L') → RV G L' σ H' en' v sv → Q v H'
  | .exc x en' => PostX G (· = σ) H L x en'
  | .stuck => False
def tE (G : Gs) (m : M SV) : TE := fun σ H Q => ∃ en L, RelS G L σ H en ∧ PostE G σ H L (m en) Q
def PostT (G : Gs) (σ : St) (H : Hp) (L : List Addr) (r : Rs Bool) (Q : Bool → Hp → Prop) : Prop :=
  match r with
  | .ok b en' => ∀ H' L', RelS G L' σ H' en' → Same (hid H L) (hid H' L') → Q b H'
  | .exc x en' => PostX G (· = σ) H L x en'
  | .stuck => False
def tT (G : Gs) (m : M Bool) : TT := fun σ H Q => ∃ en L, RelS G L σ H en ∧ PostT G σ H L (m en) Q
/-- values of arguments: none of them owned -/
def RVs (G : Gs) (L : List Addr) (σ : St) (H : Hp) (en : En) : List V → List SV → Prop := Paired fun v sv => RV G L σ H en v sv ∧ ∀ b, sv ≠ .own b
def PostA (G : Gs) (σ : St) (H : Hp) (L : List Addr) (r : Rs (List SV)) (Q : List V → Hp → Prop) : Prop :=
  match r with
  | .ok svs en' => ∀ vs H' L', RelS G L' σ H' en' → Same (hid H L) (hid H' L') → RVs G L' σ H' en' vs svs → Q vs H'
  | .exc x en' => PostX G (· = σ) H L x en'
  | .stuck => False
def tA (G : Gs) (m : M (List SV)) : TA := fun σ H Q => ∃ en L, RelS G L σ H en ∧ PostA G σ H L (m en) Q
inductive Ct where
  | nx
  | rt (sv : SV)
  | bk
  | ct
/-- slots that are not written stay -/
def Keeps (wr : List Nat) (σ σ' : St) : Prop := ∀ j, j ∉ wr → σ'[j]? = σ[j]?
theorem Keeps.refl {wr : List Nat} {σ : St} : Keeps wr σ σ := fun _ _ => rfl
theorem Keeps.trans {w1 w2 : List Nat} {σ σ1 σ2 : St} (a : Keeps w1 σ σ1) (b : Keeps w2 σ1 σ2) : Keeps (w1 ++ w2) σ σ2 := fun j h =>
  (b j fun z => h (List.mem_append_right _ z)).trans (a j fun z => h (List.mem_append_left _ z))
theorem Keeps.mono {w1 w2 : List Nat} {σ σ1 : St} (a : Keeps w1 σ σ1) (h : ∀ j ∈ w1, j ∈ w2) : Keeps w2 σ σ1 := fun j n => a j fun z => n (h j z)
theorem Keeps.set {i : Nat} {v : Option V} {σ : St} : Keeps [i] σ (σ.set i v) := fun j h => List.getElem?_set_ne (fun z => h (by rw [z]; exact List.mem_singleton.mpr rfl))
def PostS (G : Gs) (wr : List Nat) (σ : St) (H : Hp) (L : List Addr) (r : Rs Ct) (E : Ends) : Prop :=
  match r with
  | .ok .nx en' => ∀ σ' H' L', RelS G L' σ' H' en' → Same (hid H L) (hid H' L') → Keeps wr σ σ' → E.nx σ' H'
  | .ok .bk en' => ∀ σ' H' L', RelS G L' σ' H' en' → Same (hid H L) (hid H' L') → Keeps wr σ σ' → E.bk σ' H'
  | .ok .ct en' => ∀ σ' H' L', RelS G L' σ' H' en' → Same (hid H L) (hid H' L') → Keeps wr σ σ' → E.ct σ' H'
  | .ok (.rt sv) en' => ∀ v σ' H' L', RelS G L' σ' H' en' → Same (hid H L) (hid H' L') → RV G L' σ' H' en' v sv → E.rt v H'
  | .exc x en' => PostX G (Keeps wr σ) H L x en'
  | .stuck => False
def tS (G : Gs) (wr : List Nat) (m : M Ct) : TS := fun E σ H => ∃ en L, RelS G L σ H en ∧ PostS G wr σ H L (m en) E

/-! ### weakening a reading -/
theorem PE.imp {X : Cx} {e : Expr} {t u : TE} (h : PE X e t) (k : ∀ σ H Q, u σ H Q → t σ H Q) : PE X e u := ⟨fun pins s σ H Q I q => h.run pins s σ H Q I (k _ _ _ q)⟩
theorem PT.imp {X : Cx} {e : Expr} {t u : TT} (h : PT X e t) (k : ∀ σ H Q, u σ H Q → t σ H Q) : PT X e u := ⟨fun pins s σ H Q I q => h.run pins s σ H Q I (k _ _ _ q)⟩
theorem PW.imp {X : Cx} {e : Expr} {t u : TT} (h : PW X e t) (k : ∀ σ H Q, u σ H Q → t σ H Q) : PW X e u := ⟨fun w pins s σ H Q I q => h.run w pins s σ H Q I (k _ _ _ q)⟩
theorem PA.imp {X : Cx} {e : List Expr} {t u : TA} (h : PA X e t) (k : ∀ σ H Q, u σ H Q → t σ H Q) : PA X e u := ⟨fun p pins s σ H Q I q => h.run p pins s σ H Q I (k _ _ _ q)⟩
theorem PS.imp {X : Cx} {e : Stmt} {t u : TS} (h : PS X e t) (k : ∀ E σ H, u E σ H → t E σ H) : PS X e u := ⟨fun pins s σ H E I q => h.run pins s σ H E I (k _ _ _ q)⟩
theorem PSs.imp {X : Cx} {e : List Stmt} {t u : TS} (h : PSs X e t) (k : ∀ E σ H, u E σ H → t E σ H) : PSs X e u := ⟨fun pins s σ H E I q => h.run pins s σ H E I (k _ _ _ q)⟩

/-! ### the state's relation -/
section
variable {G : Gs} {H H' : Hp} {L L' : List Addr} {σ : St} {en : En} {v : V} {sv : SV} {d : D}
theorem RelS.free (R : RelS G L σ H en) {a : Addr} (h : a ∈ L) : G.H0 a = none := R.same.free (hid_in h)
theorem RelS.fresh_out (R : RelS G L σ H en) {a : Addr} (h : H a = none) : a ∉ L := fun z => by
  rcases R.own a z with ⟨xs, q⟩ | ⟨kvs, q⟩ <;> (rw [h] at q; cases q)
theorem RelS.there (R : RelS G L σ H en) {a : Addr} (h : a ∈ L) : ∃ o, H a = some o := by
  rcases R.own a h with ⟨xs, q⟩ | ⟨kvs, q⟩
  · exact ⟨_, q⟩
  · exact ⟨_, q⟩
theorem RelS.fresh_base (R : RelS G L σ H en) {a : Addr} (h : H a = none) : a ∉ G.B := fun z => R.fresh_out h (R.base a z).1
/-- the heap grows -/
theorem RelS.grow (R : RelS G L σ H en) (s : Same H H') : RelS G L σ H' en where
  own := fun a h => by
    rcases R.own a h with ⟨xs, q⟩ | ⟨kvs, q⟩
    · exact .inl ⟨xs, s _ _ q⟩
    · exact .inr ⟨kvs, s _ _ q⟩
  same := R.same.trans (hid_mono s)
  len := R.len
  slot := fun i sv e => by
    have q := R.slot i sv e
    cases sv with
    | d dd => obtain ⟨v, e1, h⟩ := q; exact ⟨v, e1, Dq.mono (hid_mono s) _ h⟩
    | own b => obtain ⟨a, o, e1, m, ho, h⟩ := q; exact ⟨a, o, e1, m, s _ _ ho, h.mono (hid_mono s)⟩
    | bor _ => exact q
  apart := R.apart
  base := fun a m => by
    obtain ⟨h1, h2, h3⟩ := R.base a m
    obtain ⟨o, ho⟩ := R.there h1
    exact ⟨h1, (s _ _ ho).trans (ho.symm.trans h2), h3⟩
/-- more is hidden: a new object -/
theorem RelS.hide (R : RelS G L σ H en) {a : Addr} {o : HO} (n : H a = none) (w : (∃ xs, o = .lst xs) ∨ ∃ kvs, o = .dK kvs) : RelS G (a :: L) σ (upd H a o) en where
  own := fun b h => by
    rcases List.mem_cons.mp h with rfl | h
    · rcases w with ⟨xs, rfl⟩ | ⟨kvs, rfl⟩
      · exact .inl ⟨xs, upd_same⟩
      · exact .inr ⟨kvs, upd_same⟩
    · have hb : b ≠ a := fun z => R.fresh_out n (by rw [← z]; exact h)
      rw [upd_ne hb]
      exact R.own b h
  same := R.same.trans (hid_new n)
  len := R.len
  slot := fun i sv e => by
    have q := R.slot i sv e
    cases sv with
    | d dd => obtain ⟨v, e1, h⟩ := q; exact ⟨v, e1, Dq.mono (hid_new n) _ h⟩
    | own b => obtain ⟨c, u, e1, m, ho, h⟩ := q; exact ⟨c, u, e1, List.mem_cons_of_mem _ m, same_new n _ _ ho, h.mono (hid_new n)⟩
    | bor _ => exact q
  apart := R.apart
  base := fun b m => by
    obtain ⟨h1, h2, h3⟩ := R.base b m
    obtain ⟨u, hu⟩ := R.there h1
    exact ⟨List.mem_cons_of_mem _ h1, (same_new n _ _ hu).trans (hu.symm.trans h2), h3⟩
/-- less is hidden -/
theorem RelS.show (R : RelS G L σ H en) (h : ∀ a ∈ L', a ∈ L) (hb : ∀ a ∈ G.B, a ∈ L') (k : ∀ (i : Nat) (b : OB) (a : Addr), en[i]? = some (some (SV.own b)) → σ[i]? = some (some (V.ref a)) → a ∈ L → a ∈ L') : RelS G L' σ H en where
  own := fun a m => R.own a (h a m)
  same := R.same.trans (hid_less h)
  len := R.len
  slot := fun i sv e => by
    have q := R.slot i sv e
    cases sv with
    | d dd => obtain ⟨v, e1, q⟩ := q; exact ⟨v, e1, Dq.mono (hid_less h) _ q⟩
    | own b => obtain ⟨c, u, e1, m, ho, q⟩ := q; exact ⟨c, u, e1, k i b c e e1 m, ho, q.mono (hid_less h)⟩
    | bor _ => exact q
  apart := R.apart
  base := fun b m => by
    obtain ⟨h1, h2, h3⟩ := R.base b m
    exact ⟨hb b m, h2, h3⟩
end
end L2

namespace L2
open PySem PySem.Spec PyProof.Rows

/-! ### the mirror's steps -/
def mpure {α : Type} (a : α) : M α := fun en => .ok a en
def mbind {α β : Type} (m : M α) (f : α → M β) : M β := fun en => match m en with
  | .ok a en' => f a en'
  | .exc x en' => .exc x en'
  | .stuck => .stuck
def mstuck {α : Type} : M α := fun _ => .stuck
def dctD (kvs : List (Key × D)) : D := .dict (kvs.map fun p => (kD p.1, p.2))
/-- what an operand is worth -/
def look (en : En) : SV → Option D
  | .d d => some d
  | .own _ => none
  | .bor i => match en[i]? with
    | some (some (.own (.lst ds))) => some (.list ds)
    | some (some (.own (.dct kvs))) => some (dctD kvs)
    | _ => none
def looks (en : En) : List SV → Option (List D)
  | [] => some []
  | s :: r => match look en s, looks en r with
    | some d, some ds => some (d :: ds)
    | _, _ => none
/-- a new list is let be seen -/
def mfrz (m : M SV) : M SV := mbind m fun sv => match sv with
  | .own (.lst ds) => mpure (.d (.list ds))
  | .own (.dct _) => mstuck
  | sv => mpure sv
/-- .. and the list of a slot too, for good -/
def mkeep (m : M SV) : M SV := mbind (mfrz m) fun sv => match sv with
  | .bor i => fun en => match en[i]? with
    | some (some (.own (.lst ds))) => .ok (.d (.list ds)) (en.set i (some (.d (.list ds))))
    | _ => .stuck
  | sv => mpure sv

/-! ### operands -/
def Opd (K : Kf) (H : Hp) (L : List Addr) (x : V) (d : D) : Prop :=
  Dq K (hid H L) x d ∨ (∃ a xs ds, x = .ref a ∧ d = .list ds ∧ H a = some (.lst xs) ∧ DqAll K (hid H L) xs ds) ∨
    ∃ a kvs kds, x = .ref a ∧ d = dctD kds ∧ H a = some (.dK kvs) ∧ KD K (hid H L) kvs kds
abbrev OpdAll (K : Kf) (H : Hp) (L : List Addr) : List V → List D → Prop := Paired (Opd K H L)
section
variable {K : Kf} {H0 H H' : Hp} {L L' : List Addr} {σ : St} {en en' : En} {v x y : V} {sv : SV} {d : D}
theorem Opd.list (h : Opd K H L x (.list ds)) : ∃ a xs, x = .ref a ∧ H a = some (.lst xs) ∧ DqAll K (hid H L) xs ds := by
  rcases h with h | ⟨a, xs, es, rfl, e, h, q⟩ | ⟨a, _, _, _, e, _⟩
  · cases h with
    | lst hs ha => exact ⟨_, _, rfl, hid_same _ _ hs, ha⟩
  · cases e; exact ⟨a, xs, rfl, h, q⟩
  · exact nomatch e
theorem Opd.tuple (h : Opd K H L x (.tuple ds)) : ∃ a xs, x = .ref a ∧ SqT K H a xs ∧ DqAll K (hid H L) xs ds := by
  rcases h with h | ⟨a, xs, es, rfl, e, h, q⟩ | ⟨a, _, _, _, e, _⟩
  · cases h with
    | tup hs ha => exact ⟨_, _, rfl, sqT_mono hid_same hs, ha⟩
  · exact nomatch e
  · exact nomatch e
theorem Opd.int {i : Int} (h : Opd K H L x (.int i)) : x = .int i := by
  rcases h with h | ⟨a, xs, es, rfl, e, h, q⟩ | ⟨a, _, _, _, e, _⟩
  · cases h; rfl
  · exact nomatch e
  · exact nomatch e
theorem Opd.bool {i : Bool} (h : Opd K H L x (.bool i)) : x = .bl i := by
  rcases h with h | ⟨a, xs, es, rfl, e, h, q⟩ | ⟨a, _, _, _, e, _⟩
  · cases h; rfl
  · exact nomatch e
  · exact nomatch e
theorem Opd.str {i : Str} (h : Opd K H L x (.str i)) : x = .str i := by
  rcases h with h | ⟨a, xs, es, rfl, e, h, q⟩ | ⟨a, _, _, _, e, _⟩
  · cases h; rfl
  · exact nomatch e
  · exact nomatch e
theorem Opd.none (h : Opd K H L x .none) : x = .non := by
  rcases h with h | ⟨a, xs, es, rfl, e, h, q⟩ | ⟨a, _, _, _, e, _⟩
  · cases h; rfl
  · exact nomatch e
  · exact nomatch e
/-- data, seen by all or at hand -/
theorem Opd.dp (h : Opd K H L x d) (n : plain d = true) : Dp K H x d := by
  rcases h with h | ⟨a, xs, es, rfl, rfl, h, q⟩ | ⟨a, _, _, _, rfl, _⟩
  · exact Dq.dp _ n (Dq.mono hid_same _ h)
  · exact .lst (.of h) (DqAll.dp _ (by simpa [plain] using n) (DqAll.mono hid_same _ q))
  · simp [plain, dctD] at n
theorem Opd.scr {ns : List Int} (h : Opd K H L x (scrD ns)) : ∃ a, x = .ref a ∧ SqL K H a (ns.map V.int) := by
  have inj : ∀ {ms : List Int}, ms.map PyData.int = ns.map PyData.int → ms = ns := fun {ms} e => by
    have q := congrArg (List.map fun d => match d with | PyData.int i => i | _ => 0) e
    simpa [List.map_map, Function.comp_def] using q
  generalize e : scrD ns = d at h
  rcases h with h | ⟨a, xs, es, rfl, e2, h, q⟩ | ⟨a, kvs, kds, rfl, e2, h, q⟩
  · cases h with
    | @scr a ms hs =>
      unfold scrD at e
      injection e with e
      injection e with e _
      injection e with _ e
      injection e with e
      have z := inj e.symm
      subst z
      exact ⟨a, rfl, hid_same.seq hs⟩
    | @dct a kvs kds ho hk =>
      unfold scrD at e
      injection e with e
      cases kds with
      | nil => exact nomatch e
      | cons p r =>
        injection e with e _
        injection e with e _
        cases h1 : p.1 <;> (rw [h1] at e; exact nomatch e)
    | _ => exact nomatch e
  · subst e2; exact nomatch e
  · subst e2
    unfold scrD dctD at e
    injection e with e
    cases kds with
    | nil => exact nomatch e
    | cons p r =>
      injection e with e _
      injection e with e _
      cases h1 : p.1 <;> (rw [h1] at e; exact nomatch e)
/-- an operand that was evaluated before -/
theorem RV.opd {G : Gs} (R : RelS G L' σ H' en') (s : Same (hid H L) (hid H' L')) (r : RV G L σ H en v sv) (e : look en' sv = some d) : Opd G.K H' L' v d := by
  cases sv with
  | d dd =>
    simp only [look, Option.some.injEq] at e
    subst e
    exact .inl (Dq.mono s _ r)
  | own _ => simp [look] at e
  | bor i =>
    obtain ⟨e1, _⟩ := r
    simp only [look] at e
    cases q : en'[i]? with
    | none => rw [q] at e; simp at e
    | some o =>
      rw [q] at e
      cases o with
      | none => simp at e
      | some sv' =>
        cases sv' with
        | d _ => simp at e
        | bor _ => simp at e
        | own b =>
          have z := R.slot i _ q
          obtain ⟨a, o, e2, m, ho, hr⟩ := z
          rw [e1] at e2
          cases e2
          cases b with
          | lst ds =>
            simp only [Option.some.injEq] at e
            subst e
            cases o with
            | lst xs => exact .inr (.inl ⟨a, xs, ds, rfl, rfl, ho, hr⟩)
            | _ => exact hr.elim
          | dct kds =>
            simp only [Option.some.injEq] at e
            subst e
            cases o with
            | dK kvs => exact .inr (.inr ⟨a, kvs, kds, rfl, rfl, ho, hr⟩)
            | _ => exact hr.elim
theorem RVs.opd {G : Gs} (R : RelS G L' σ H' en') (s : Same (hid H L) (hid H' L')) : ∀ {vs : List V} {svs : List SV} {ds : List D}, RVs G L σ H en vs svs → looks en' svs = some ds → OpdAll G.K H' L' vs ds
  | _, _, _, .nil, e => by
    simp only [looks, Option.some.injEq] at e
    subst e
    exact .nil
  | _, s0 :: r0, _, .cons h t, e => by
    simp only [looks] at e
    split at e
    · rename_i d ds e1 e2
      simp only [Option.some.injEq] at e
      subst e
      exact .cons (RV.opd R s h.1 e1) (RVs.opd R s t e2)
    · cases e
end

/-! ### ends -/
section
variable {G : Gs} {H H1 : Hp} {L L1 : List Addr} {σ : St} {en : En} {v : V} {sv : SV} {d : D} {Q : VK}
theorem PostX.from {σ0 : St → Prop} {x : Xc} (s : Same (hid H L) (hid H1 L1)) (h : PostX G σ0 H L x en) : PostX G σ0 H1 L1 x en := fun cls d σ H' L' a b c e => h cls d σ H' L' a b (s.trans c) e
theorem PostE.from {r : Rs SV} (s : Same (hid H L) (hid H1 L1)) (h : PostE G σ H L r Q) : PostE G σ H1 L1 r Q := by
  cases r with
  | ok sv en' => exact fun v H' L' a b c => h v H' L' a (s.trans b) c
  | exc x en' => exact PostX.from s h
  | stuck => exact h
theorem PostT.from {r : Rs Bool} {Q : Bool → Hp → Prop} (s : Same (hid H L) (hid H1 L1)) (h : PostT G σ H L r Q) : PostT G σ H1 L1 r Q := by
  cases r with
  | ok sv en' => exact fun H' L' a b => h H' L' a (s.trans b)
  | exc x en' => exact PostX.from s h
  | stuck => exact h
theorem PostA.from {r : Rs (List SV)} {Q : List V → Hp → Prop} (s : Same (hid H L) (hid H1 L1)) (h : PostA G σ H L r Q) : PostA G σ H1 L1 r Q := by
  cases r with
  | ok sv en' => exact fun v H' L' a b c => h v H' L' a (s.trans b) c
  | exc x en' => exact PostX.from s h
  | stuck => exact h
theorem PostX.imp {σ0 σ1 : St → Prop} {x : Xc} (h : PostX G σ0 H L x en) (k : ∀ σ, σ1 σ → σ0 σ) : PostX G σ1 H L x en := fun cls d σ H' L' a b c e => h cls d σ H' L' (k σ a) b c e
theorem PostS.from {w1 w2 : List Nat} {σ1 : St} {r : Rs Ct} {E : Ends} (s : Same (hid H L) (hid H1 L1)) (k : Keeps w1 σ σ1) (h : PostS G (w1 ++ w2) σ H L r E) : PostS G w2 σ1 H1 L1 r E := by
  cases r with
  | ok c en' =>
    cases c with
    | nx => exact fun σ' H' L' a b c => h σ' H' L' a (s.trans b) (k.trans c)
    | bk => exact fun σ' H' L' a b c => h σ' H' L' a (s.trans b) (k.trans c)
    | ct => exact fun σ' H' L' a b c => h σ' H' L' a (s.trans b) (k.trans c)
    | rt sv => exact fun v σ' H' L' a b c => h v σ' H' L' a (s.trans b) c
  | exc x en' => exact (PostX.from s h).imp fun σ' k' => k.trans k'
  | stuck => exact h
theorem PostS.from0 {wr : List Nat} {r : Rs Ct} {E : Ends} (s : Same (hid H L) (hid H1 L1)) (h : PostS G wr σ H L r E) : PostS G wr σ H1 L1 r E := PostS.from (w1 := []) s Keeps.refl h
theorem PostS.less {w1 w2 : List Nat} {r : Rs Ct} {E : Ends} (l : ∀ j ∈ w1, j ∈ w2) (h : PostS G w2 σ H L r E) : PostS G w1 σ H L r E := by
  cases r with
  | ok c en' =>
    cases c with
    | nx => exact fun σ' H' L' a b c => h σ' H' L' a b (c.mono l)
    | bk => exact fun σ' H' L' a b c => h σ' H' L' a b (c.mono l)
    | ct => exact fun σ' H' L' a b c => h σ' H' L' a b (c.mono l)
    | rt sv => exact fun v σ' H' L' a b c => h v σ' H' L' a b c
  | exc x en' => exact PostX.imp h fun σ' k' => k'.mono l
  | stuck => exact h
theorem PostX.at {wr : List Nat} {x : Xc} (h : PostX G (Keeps wr σ) H L x en) : PostX G (· = σ) H L x en := h.imp fun σ' e => by rw [e]; exact Keeps.refl
/-- a value that stands in the heap as it is -/
theorem post_d (R : RelS G L σ H en) (h : Dq G.K (hid H L) v d) (q : PostE G σ H L (.ok (.d d) en) Q) : Q v H := q v H L R (Same.refl _) h
theorem post_tup {p : Addr} {xs : List V} {ds : List D} (R : RelS G L σ H en) (n : H p = none) (h : DqAll G.K (hid H L) xs ds) (q : PostE G σ H L (.ok (.d (.tuple ds)) en) Q) : Q (.ref p) (upd H p (.tup xs)) := by
  have s : Same H (upd H p (.tup xs)) := same_new n
  refine q _ _ L (R.grow s) (hid_mono s) ?_
  refine .tup (.of ?_) (DqAll.mono (hid_mono s) _ h)
  rw [hid_out (R.fresh_out n)]
  exact upd_same
theorem own_out (R : RelS G L σ H en) {p : Addr} (n : p ∉ L) (i : Nat) (c : OB) (e : en[i]? = some (some (SV.own c))) : σ[i]? ≠ some (some (V.ref p)) := fun z => by
  obtain ⟨a, o, e1, m, _⟩ := R.slot i _ e
  rw [z] at e1
  cases e1
  exact n m
theorem post_lst {p : Addr} {xs : List V} {ds : List D} (R : RelS G L σ H en) (n : H p = none) (h : DqAll G.K (hid H L) xs ds) (q : PostE G σ H L (.ok (.own (.lst ds)) en) Q) : Q (.ref p) (upd H p (.lst xs)) :=
  q _ _ (p :: L) (R.hide n (.inl ⟨xs, rfl⟩)) (hid_new n) ⟨p, .lst xs, rfl, List.mem_cons_self, R.fresh_base n, upd_same, DqAll.mono (hid_new n) _ h, own_out R (R.fresh_out n)⟩
/-- sequence -/
theorem seqE {ma : M SV} {f : SV → M SV} (R : RelS G L σ H en) (q : PostE G σ H L (mbind ma f en) Q) :
    tE G ma σ H fun x H1 => ∃ en1 L1 sv, RelS G L1 σ H1 en1 ∧ Same (hid H L) (hid H1 L1) ∧ RV G L1 σ H1 en1 x sv ∧ PostE G σ H1 L1 (f sv en1) Q := by
  refine ⟨en, L, R, ?_⟩
  unfold mbind at q
  cases e : ma en with
  | ok sv en' =>
    rw [e] at q
    exact fun v H' L' a b c => ⟨en', L', sv, a, b, c, q.from b⟩
  | exc x en' =>
    rw [e] at q
    exact q
  | stuck =>
    rw [e] at q
    exact q
theorem seqA {ma : M SV} {f : SV → M (List SV)} {Q : List V → Hp → Prop} (R : RelS G L σ H en) (q : PostA G σ H L (mbind ma f en) Q) :
    tE G ma σ H fun x H1 => ∃ en1 L1 sv, RelS G L1 σ H1 en1 ∧ Same (hid H L) (hid H1 L1) ∧ RV G L1 σ H1 en1 x sv ∧ PostA G σ H1 L1 (f sv en1) Q := by
  refine ⟨en, L, R, ?_⟩
  unfold mbind at q
  cases e : ma en with
  | ok sv en' =>
    rw [e] at q
    exact fun v H' L' a b c => ⟨en', L', sv, a, b, c, q.from b⟩
  | exc x en' =>
    rw [e] at q
    exact q
  | stuck =>
    rw [e] at q
    exact q
theorem seqAA {ma : M (List SV)} {f : List SV → M (List SV)} {Q : List V → Hp → Prop} (R : RelS G L σ H en) (q : PostA G σ H L (mbind ma f en) Q) :
    tA G ma σ H fun x H1 => ∃ en1 L1 sv, RelS G L1 σ H1 en1 ∧ Same (hid H L) (hid H1 L1) ∧ RVs G L1 σ H1 en1 x sv ∧ PostA G σ H1 L1 (f sv en1) Q := by
  refine ⟨en, L, R, ?_⟩
  unfold mbind at q
  cases e : ma en with
  | ok sv en' =>
    rw [e] at q
    exact fun v H' L' a b c => ⟨en', L', sv, a, b, c, q.from b⟩
  | exc x en' =>
    rw [e] at q
    exact q
  | stuck =>
    rw [e] at q
    exact q
theorem seqAE {ma : M (List SV)} {f : List SV → M SV} (R : RelS G L σ H en) (q : PostE G σ H L (mbind ma f en) Q) :
    tA G ma σ H fun x H1 => ∃ en1 L1 sv, RelS G L1 σ H1 en1 ∧ Same (hid H L) (hid H1 L1) ∧ RVs G L1 σ H1 en1 x sv ∧ PostE G σ H1 L1 (f sv en1) Q := by
  refine ⟨en, L, R, ?_⟩
  unfold mbind at q
  cases e : ma en with
  | ok sv en' =>
    rw [e] at q
    exact fun v H' L' a b c => ⟨en', L', sv, a, b, c, q.from b⟩
  | exc x en' =>
    rw [e] at q
    exact q
  | stuck =>
    rw [e] at q
    exact q
theorem seqET {ma : M SV} {f : SV → M Bool} {Q : Bool → Hp → Prop} (R : RelS G L σ H en) (q : PostT G σ H L (mbind ma f en) Q) :
    tE G ma σ H fun x H1 => ∃ en1 L1 sv, RelS G L1 σ H1 en1 ∧ Same (hid H L) (hid H1 L1) ∧ RV G L1 σ H1 en1 x sv ∧ PostT G σ H1 L1 (f sv en1) Q := by
  refine ⟨en, L, R, ?_⟩
  unfold mbind at q
  cases e : ma en with
  | ok sv en' =>
    rw [e] at q
    exact fun v H' L' a b c => ⟨en', L', sv, a, b, c, q.from b⟩
  | exc x en' =>
    rw [e] at q
    exact q
  | stuck =>
    rw [e] at q
    exact q
theorem seqTE {ma : M Bool} {f : Bool → M SV} (R : RelS G L σ H en) (q : PostE G σ H L (mbind ma f en) Q) :
    tT G ma σ H fun x H1 => ∃ en1 L1, RelS G L1 σ H1 en1 ∧ Same (hid H L) (hid H1 L1) ∧ PostE G σ H1 L1 (f x en1) Q := by
  refine ⟨en, L, R, ?_⟩
  unfold mbind at q
  cases e : ma en with
  | ok sv en' =>
    rw [e] at q
    exact fun H' L' a b => ⟨en', L', a, b, q.from b⟩
  | exc x en' =>
    rw [e] at q
    exact q
  | stuck =>
    rw [e] at q
    exact q
theorem seqTT {ma : M Bool} {f : Bool → M Bool} {Q : Bool → Hp → Prop} (R : RelS G L σ H en) (q : PostT G σ H L (mbind ma f en) Q) :
    tT G ma σ H fun x H1 => ∃ en1 L1, RelS G L1 σ H1 en1 ∧ Same (hid H L) (hid H1 L1) ∧ PostT G σ H1 L1 (f x en1) Q := by
  refine ⟨en, L, R, ?_⟩
  unfold mbind at q
  cases e : ma en with
  | ok sv en' =>
    rw [e] at q
    exact fun H' L' a b => ⟨en', L', a, b, q.from b⟩
  | exc x en' =>
    rw [e] at q
    exact q
  | stuck =>
    rw [e] at q
    exact q
end

/-! ### names and constants -/
def mVar (i : Nat) : M SV := fun en => match en[i]? with
  | some (some (.d d)) => .ok (.d d) en
  | some (some (.own _)) => .ok (.bor i) en
  | _ => .stuck
def mC (d : D) : M SV := mpure (.d d)
section
variable {X : Cx} {G : Gs} {e a b : Expr} {m ma mb : M SV} {pos : Pos}
theorem je_var (hK : X.K = G.K) (i : Nat) {x : Str} (hN : X.N[i]? = some x := by rfl) (hv : Vis X.env.scope x := by first | exact Or.inl rfl | exact Or.inr (Or.inl rfl) | exact Or.inr (Or.inr rfl)) (hd : (x == ("__debug__" : Str)) = false := by decide)
    (hcd : (x == ("__classdict__" : Str)) = false := by decide) : PE X (.Name x pos) (tE G (mVar i)) := by
  refine (pe_var hN hv hd hcd).imp fun σ H Q h => ?_
  obtain ⟨en, L, R, q⟩ := h
  unfold mVar at q
  cases e : en[i]? with
  | none => rw [e] at q; exact q.elim
  | some o =>
    rw [e] at q
    cases o with
    | none => exact q.elim
    | some sv =>
      have z := R.slot i sv e
      cases sv with
      | d d =>
        obtain ⟨v, e1, hv⟩ := z
        exact ⟨v, e1, q v H L R (Same.refl _) hv⟩
      | own o =>
        obtain ⟨a, ho, e1, _⟩ := z
        exact ⟨.ref a, e1, q _ H L R (Same.refl _) ⟨e1, o, e⟩⟩
      | bor _ => exact q.elim
theorem je_c {v : V} {d : D} (h : PE X e (tC v)) (hd : ∀ H, Dq G.K H v d) : PE X e (tE G (mC d)) := h.imp fun σ H Q h => by
  obtain ⟨en, L, R, q⟩ := h
  exact post_d R (hd _) q
theorem je_int {i : Int} {j} : PE X (.Constant (.int i) j pos) (tE G (mC (.int i))) := je_c pe_int fun _ => .int i
theorem je_str {i : Str} {j} : PE X (.Constant (.str i) j pos) (tE G (mC (.str i))) := je_c pe_str fun _ => .str i
theorem je_bl {i : Bool} {j} : PE X (.Constant (.bool i) j pos) (tE G (mC (.bool i))) := je_c pe_bl fun _ => .bl i
theorem je_non {j} : PE X (.Constant .none j pos) (tE G (mC .none)) := je_c pe_non fun _ => .non
/-- an object that nobody holds by a slot is let be seen -/
theorem own_show {G : Gs} {H : Hp} {L : List Addr} {σ : St} {en : En} {a : Addr} (R : RelS G L σ H en) (na : a ∉ G.B) (n : ∀ (i : Nat) (c : OB), en[i]? = some (some (SV.own c)) → σ[i]? ≠ some (some (V.ref a))) :
    RelS G (L.filter (· ≠ a)) σ H en ∧ Same (hid H L) (hid H (L.filter (· ≠ a))) ∧ a ∉ L.filter (· ≠ a) := by
  have h : ∀ b ∈ L.filter (· ≠ a), b ∈ L := fun b z => (List.mem_filter.mp z).1
  refine ⟨R.show h (fun b m => List.mem_filter.mpr ⟨(R.base b m).1, decide_eq_true fun z => na (z ▸ m)⟩) fun i b c e e1 m => List.mem_filter.mpr ⟨m, ?_⟩, hid_less h, fun z => ?_⟩
  · exact decide_eq_true fun z => n i b e (z ▸ e1)
  · have := (List.mem_filter.mp z).2
    simp at this
theorem je_frz (h : PE X e (tE G m)) : PE X e (tE G (mfrz m)) := h.imp fun σ H Q h => by
  obtain ⟨en, L, R, q⟩ := h
  obtain ⟨en1, L1, R1, q1⟩ := seqE (f := fun sv => match sv with
    | .own (.lst ds) => mpure (.d (.list ds))
    | .own (.dct _) => mstuck
    | sv => mpure sv) R q
  refine ⟨en1, L1, R1, ?_⟩
  cases e : m en1 with
  | stuck => rw [e] at q1; exact q1
  | exc x en' => rw [e] at q1; exact q1
  | ok sv en' =>
    rw [e] at q1
    intro v H' L' R' s r
    obtain ⟨en2, L2, sv2, R2, s2, r2, q2⟩ := q1 v H' L' R' s r
    cases sv2 with
    | d d => exact q2 v H' L2 R2 (Same.refl _) r2
    | bor i => exact q2 v H' L2 R2 (Same.refl _) r2
    | own o =>
      cases o with
      | dct _ => exact q2.elim
      | lst ds =>
        obtain ⟨a, o, rfl, ma, nb, ho, hr, n⟩ := r2
        obtain ⟨R3, s3, n3⟩ := own_show R2 nb n
        refine q2 _ H' _ R3 s3 ?_
        cases o with
        | lst xs =>
          refine .lst ?_ (DqAll.mono s3 _ hr)
          rw [hid_out n3]
          exact ho
        | _ => exact hr.elim
end
end L2

namespace L2
open PySem PySem.Spec PyProof.Rows

def mres (o : Option SV) : M SV := fun en => match o with
  | some sv => .ok sv en
  | none => .stuck
def mOp1 (f : D → M SV) (ma : M SV) : M SV := mbind (mfrz ma) fun a en => match look en a with
  | some x => f x en
  | none => .stuck
def mOp2 (f : D → D → M SV) (ma mb : M SV) : M SV := mbind (mfrz ma) fun a => mbind (mfrz mb) fun b en => match look en a, look en b with
  | some x, some y => f x y en
  | _, _ => .stuck
def Fits1 (G : Gs) (r : V → Hp → VK → Prop) (f : D → M SV) : Prop := ∀ σ H L en x dx Q, RelS G L σ H en → Opd G.K H L x dx → PostE G σ H L (f dx en) Q → r x H Q
def Fits2 (G : Gs) (r : R2) (f : D → D → M SV) : Prop := ∀ σ H L en x y dx dy Q, RelS G L σ H en → Opd G.K H L x dx → Opd G.K H L y dy → PostE G σ H L (f dx dy en) Q → r x y H Q
section
variable {X : Cx} {G : Gs} {e a b : Expr} {m ma mb : M SV} {pos : Pos} {r : R2} {f : D → D → M SV}
theorem op1_imp {r : V → Hp → VK → Prop} {f : D → M SV} (F : Fits1 G r f) (σ : St) (H : Hp) (Q : VK) (h : tE G (mOp1 f ma) σ H Q) : tUn r (tE G (mfrz ma)) σ H Q := by
  obtain ⟨en, L, R, q⟩ := h
  have z := seqE R q
  obtain ⟨en0, L0, R0, q0⟩ := z
  refine ⟨en0, L0, R0, ?_⟩
  cases e : mfrz ma en0 with
  | stuck => rw [e] at q0; exact q0
  | exc x en' => rw [e] at q0; exact q0
  | ok sv en' =>
    rw [e] at q0
    intro v H1 L1 R1 s1 r1
    obtain ⟨en2, L2, sv2, R2, s2, r2, q2⟩ := q0 v H1 L1 R1 s1 r1
    show r v H1 Q
    cases e2 : look en2 sv2 with
    | none => simp only [e2] at q2; exact q2.elim
    | some d =>
      simp only [e2] at q2
      exact F σ H1 L2 en2 v d Q R2 (RV.opd R2 (Same.refl _) r2 e2) q2
/-- weaken the end of an expression's reading -/
theorem tE.mono {Q Q' : VK} {σ : St} {H : Hp} (h : tE G m σ H Q) (k : ∀ v H', Q v H' → Q' v H') : tE G m σ H Q' := by
  obtain ⟨en, L, R, q⟩ := h
  refine ⟨en, L, R, ?_⟩
  cases e : m en with
  | stuck => rw [e] at q; exact q
  | exc x en' => rw [e] at q; exact q
  | ok sv en' =>
    rw [e] at q
    exact fun v H1 L1 a b c => k _ _ (q v H1 L1 a b c)
theorem tT.mono {m : M Bool} {Q Q' : Bool → Hp → Prop} {σ : St} {H : Hp} (h : tT G m σ H Q) (k : ∀ v H', Q v H' → Q' v H') : tT G m σ H Q' := by
  obtain ⟨en, L, R, q⟩ := h
  refine ⟨en, L, R, ?_⟩
  cases e : m en with
  | stuck => rw [e] at q; exact q
  | exc x en' => rw [e] at q; exact q
  | ok sv en' =>
    rw [e] at q
    exact fun H1 L1 a b => k _ _ (q H1 L1 a b)
theorem tA.mono {m : M (List SV)} {Q Q' : List V → Hp → Prop} {σ : St} {H : Hp} (h : tA G m σ H Q) (k : ∀ v H', Q v H' → Q' v H') : tA G m σ H Q' := by
  obtain ⟨en, L, R, q⟩ := h
  refine ⟨en, L, R, ?_⟩
  cases e : m en with
  | stuck => rw [e] at q; exact q
  | exc x en' => rw [e] at q; exact q
  | ok sv en' =>
    rw [e] at q
    exact fun v H1 L1 a b c => k _ _ (q v H1 L1 a b c)
theorem tS.mono {wr : List Nat} {m : M Ct} {E E' : Ends} {σ : St} {H : Hp} (h : tS G wr m E σ H) (k1 : ∀ σ' H', E.nx σ' H' → E'.nx σ' H') (k2 : ∀ σ' H', E.rt σ' H' → E'.rt σ' H') (k3 : ∀ σ' H', E.bk σ' H' → E'.bk σ' H') (k4 : ∀ σ' H', E.ct σ' H' → E'.ct σ' H') : tS G wr m E' σ H := by
  obtain ⟨en, L, R, q⟩ := h
  refine ⟨en, L, R, ?_⟩
  cases e : m en with
  | stuck => rw [e] at q; exact q
  | exc x en' => rw [e] at q; exact q
  | ok c en' =>
    rw [e] at q
    cases c with
    | nx => exact fun σ1 H1 L1 a b k => k1 _ _ (q σ1 H1 L1 a b k)
    | bk => exact fun σ1 H1 L1 a b k => k3 _ _ (q σ1 H1 L1 a b k)
    | ct => exact fun σ1 H1 L1 a b k => k4 _ _ (q σ1 H1 L1 a b k)
    | rt sv => exact fun v σ1 H1 L1 a b c => k2 _ _ (q v σ1 H1 L1 a b c)
theorem op2_imp (F : Fits2 G r f) (σ : St) (H : Hp) (Q : VK) (h : tE G (mOp2 f ma mb) σ H Q) : tOp r (tE G (mfrz ma)) (tE G (mfrz mb)) σ H Q := by
  obtain ⟨en, L, R, q⟩ := h
  refine (seqE R q).mono fun x H1 ⟨en1, L1, sv1, R1, s1, r1, q1⟩ => ?_
  refine (seqE R1 q1).mono fun y H2 ⟨en2, L2, sv2, R2, s2, r2, q2⟩ => ?_
  cases e1 : look en2 sv1 with
  | none => simp only [e1] at q2; exact q2.elim
  | some d1 =>
    cases e2 : look en2 sv2 with
    | none => simp only [e1, e2] at q2; exact q2.elim
    | some d2 =>
      simp only [e1, e2] at q2
      exact F σ H2 L2 en2 x y d1 d2 Q R2 (RV.opd R2 s2 r1 e1) (RV.opd R2 (Same.refl _) r2 e2) q2
/-! ### operators -/
theorem je_bin {op : Operator} (ho : OpR X (binaryOp op) r) (F : Fits2 G r f) (ha : PE X a (tE G ma)) (hb : PE X b (tE G mb)) : PE X (.BinOp a op b pos) (tE G (mOp2 f ma mb)) :=
  (pe_op ho (je_frz ha) (je_frz hb)).imp (op2_imp F)
theorem je_un {op : UnaryOp} {r : V → Hp → VK → Prop} {f : D → M SV} (ho : UnR X (unaryOp op) r) (F : Fits1 G r f) (ha : PE X a (tE G ma)) : PE X (.UnaryOp op a pos) (tE G (mOp1 f ma)) :=
  (pe_un ho (je_frz ha)).imp (op1_imp F)
theorem je_cmp {op : CmpOp} (ho : OpR X (compareOp op) r) (F : Fits2 G r f) (ha : PE X a (tE G ma)) (hb : PE X b (tE G mb)) (hm : behindInMarks op b = false := by first | exact nobehind _ (by decide) (by decide) | rfl) : PE X (.Compare a [op] [b] pos) (tE G (mOp2 f ma mb)) :=
  (pe_cmpR ho (je_frz ha) (je_frz hb) hm).imp (op2_imp F)
theorem je_ix (hr : IxR X r) (F : Fits2 G r f) (ha : PE X a (tE G ma)) (hb : PE X b (tE G mb)) (hs : PlainIx b := by exact fun _ _ => rfl) : PE X (.Subscript a b pos) (tE G (mOp2 f ma mb)) :=
  (pe_ix hr (je_frz ha) (je_frz hb) hs).imp (op2_imp F)
/-! ### tests -/
def mB (m : M SV) : M Bool := mbind m fun sv => match sv with
  | .d (.bool b) => mpure b
  | _ => mstuck
theorem test_imp {t : TE} (k : ∀ σ H Q, tE G m σ H Q → t σ H Q) (σ : St) (H : Hp) (Q : Bool → Hp → Prop) (h : tT G (mB m) σ H Q) : t σ H fun x H' => ∃ c, x = .bl c ∧ Q c H' := by
  obtain ⟨en, L, R, q⟩ := h
  refine k σ H _ ((seqET R q).mono fun x H1 ⟨en1, L1, sv1, R1, s1, r1, q1⟩ => ?_)
  cases sv1 with
  | own _ => exact q1.elim
  | bor _ => exact q1.elim
  | d d =>
    cases d with
    | bool b =>
      cases r1
      exact ⟨b, rfl, q1 H1 L1 R1 (Same.refl _)⟩
    | _ => exact q1.elim
theorem jt_cmp {op : CmpOp} (ho : OpR X (compareOp op) r) (F : Fits2 G r f) (ha : PE X a (tE G ma)) (hb : PE X b (tE G mb)) (hm : behindInMarks op b = false := by first | exact nobehind _ (by decide) (by decide) | rfl) : PT X (.Compare a [op] [b] pos) (tT G (mB (mOp2 f ma mb))) :=
  (pt_cmpR ho (je_frz ha) (je_frz hb) hm).imp (test_imp (op2_imp F))
theorem jt_val (h : PE X e (tE G m)) (he : ∀ whole, isTrue e X.env whole = (do let v ← whole; standAt e.pos; holding [v] (truthy v)) := by intro _; rfl) : PT X e (tT G (mB m)) :=
  (pt_val h he).imp (test_imp fun _ _ _ h => h)
def mNotT (m : M Bool) : M Bool := mbind m fun b => mpure (!b)
def mAndT (m n : M Bool) : M Bool := mbind m fun b => if b then n else mpure false
def mOrT (m n : M Bool) : M Bool := mbind m fun b => if b then mpure true else n
variable {ta tb : M Bool}
theorem jt_not (h : PT X e (tT G ta)) : PT X (.UnaryOp .Not e pos) (tT G (mNotT ta)) := (pt_not h).imp fun σ H Q h => by
  obtain ⟨en, L, R, q⟩ := h
  exact (seqTT R q).mono fun b H1 ⟨en1, L1, R1, s1, q1⟩ => q1 H1 L1 R1 (Same.refl _)
theorem and_imp (σ : St) (H : Hp) (Q : Bool → Hp → Prop) (h : tT G (mAndT ta tb) σ H Q) : tAnd (tT G ta) (tT G tb) σ H Q := by
  obtain ⟨en, L, R, q⟩ := h
  refine (seqTT R q).mono fun b H1 ⟨en1, L1, R1, s1, q1⟩ => ?_
  cases b with
  | true => exact ⟨en1, L1, R1, q1⟩
  | false => exact q1 H1 L1 R1 (Same.refl _)
theorem or_imp (σ : St) (H : Hp) (Q : Bool → Hp → Prop) (h : tT G (mOrT ta tb) σ H Q) : tOr (tT G ta) (tT G tb) σ H Q := by
  obtain ⟨en, L, R, q⟩ := h
  refine (seqTT R q).mono fun b H1 ⟨en1, L1, R1, s1, q1⟩ => ?_
  cases b with
  | true => exact q1 H1 L1 R1 (Same.refl _)
  | false => exact ⟨en1, L1, R1, q1⟩
theorem jw_and1 (h : PT X e (tT G ta)) : PW X (.BoolOp .And [e] pos) (tT G ta) := pw_and1 h
theorem jw_or1 (h : PT X e (tT G ta)) : PW X (.BoolOp .Or [e] pos) (tT G ta) := pw_or1 h
theorem jw_and {rest : List Expr} (ha : PT X a (tT G ta)) (hb : PW X (.BoolOp .And (b :: rest) pos) (tT G tb)) : PW X (.BoolOp .And (a :: b :: rest) pos) (tT G (mAndT ta tb)) := (pw_and ha hb).imp and_imp
theorem jw_or {rest : List Expr} (ha : PT X a (tT G ta)) (hb : PW X (.BoolOp .Or (b :: rest) pos) (tT G tb)) : PW X (.BoolOp .Or (a :: b :: rest) pos) (tT G (mOrT ta tb)) := (pw_or ha hb).imp or_imp
/-! ### and, or, not as values -/
def mBV (m : M Bool) : M SV := mbind m fun b => mpure (.d (.bool b))
theorem je_not (h : PE X e (tE G m)) : PE X (.UnaryOp .Not e pos) (tE G (mBV (mNotT (mB m)))) := (pe_not h).imp fun σ H Q h => by
  obtain ⟨en, L, R, q⟩ := h
  refine test_imp (G := G) (m := m) (Q := fun c H' => Q (.bl (!c)) H') (fun _ _ _ h => h) σ H ⟨en, L, R, ?_⟩
  unfold mBV mNotT mbind at q
  cases e1 : mB m en with
  | stuck => simp only [e1] at q; exact q
  | exc x en' => simp only [e1] at q; exact q
  | ok c en' =>
    simp only [e1] at q
    exact fun H' L' a b => q _ H' L' a b (.bl _)
theorem tT_split {m : M Bool} {f : Bool → M SV} {σ : St} {H : Hp} {L : List Addr} {en : En} {Q : VK} (R : RelS G L σ H en) (q : PostE G σ H L (mbind m f en) Q) :
    tT G m σ H fun c H1 => ∃ en1 L1, RelS G L1 σ H1 en1 ∧ PostE G σ H1 L1 (f c en1) Q := (seqTE R q).mono fun c H1 ⟨en1, L1, R1, _, q1⟩ => ⟨en1, L1, R1, q1⟩
theorem bv_and {en : En} : mBV (mAndT ta tb) en = mbind ta (fun b => if b then mBV tb else mpure (.d (.bool false))) en := by
  unfold mBV mAndT mbind
  cases ta en with
  | ok b en' => cases b <;> rfl
  | exc _ _ => rfl
  | stuck => rfl
theorem bv_or {en : En} : mBV (mOrT ta tb) en = mbind ta (fun b => if b then mpure (.d (.bool true)) else mBV tb) en := by
  unfold mBV mOrT mbind
  cases ta en with
  | ok b en' => cases b <;> rfl
  | exc _ _ => rfl
  | stuck => rfl
theorem je_one {op} (h : PE X a (tE G m)) : PE X (.BoolOp op [a] pos) (tE G (mBV (mB m))) := (pe_one h).imp fun σ H Q h => by
  obtain ⟨en, L, R, q⟩ := h
  have z := test_imp (G := G) (m := m) (Q := fun c H' => Q (.bl c) H') (fun _ _ _ h => h) σ H ⟨en, L, R, ?_⟩
  · exact z.mono fun v H' ⟨c, e, q⟩ => by rw [e]; exact q
  · unfold mBV mbind at q
    cases e1 : mB m en with
    | stuck => simp only [e1] at q; exact q
    | exc x en' => simp only [e1] at q; exact q
    | ok c en' =>
      simp only [e1] at q
      exact fun H' L' a b => q _ H' L' a b (.bl _)
theorem je_and {rest : List Expr} (ha : PE X a (tE G m)) (hb : PE X (.BoolOp .And (b :: rest) pos) (tE G (mBV tb))) : PE X (.BoolOp .And (a :: b :: rest) pos) (tE G (mBV (mAndT (mB m) tb))) := (pe_and ha hb).imp fun σ H Q h => by
  obtain ⟨en, L, R, q⟩ := h
  rw [bv_and] at q
  refine test_imp (fun _ _ _ h => h) σ H _ ((tT_split R q).mono fun c H1 ⟨en1, L1, R1, q1⟩ => ?_)
  cases c with
  | true => exact ⟨en1, L1, R1, q1⟩
  | false => exact q1 _ H1 L1 R1 (Same.refl _) (.bl _)
theorem je_or {rest : List Expr} (ha : PE X a (tE G m)) (hb : PE X (.BoolOp .Or (b :: rest) pos) (tE G (mBV tb))) : PE X (.BoolOp .Or (a :: b :: rest) pos) (tE G (mBV (mOrT (mB m) tb))) := (pe_or ha hb).imp fun σ H Q h => by
  obtain ⟨en, L, R, q⟩ := h
  rw [bv_or] at q
  refine test_imp (fun _ _ _ h => h) σ H _ ((tT_split R q).mono fun c H1 ⟨en1, L1, R1, q1⟩ => ?_)
  cases c with
  | true => exact q1 _ H1 L1 R1 (Same.refl _) (.bl _)
  | false => exact ⟨en1, L1, R1, q1⟩
def mIf (t : M Bool) (m n : M SV) : M SV := mbind t fun b => if b then m else n
theorem je_if {c : Expr} (hc : PT X c (tT G ta)) (ha : PE X a (tE G ma)) (hb : PE X b (tE G mb)) : PE X (.IfExp c a b pos) (tE G (mIf ta ma mb)) := (pe_ifExp hc ha hb).imp fun σ H Q h => by
  obtain ⟨en, L, R, q⟩ := h
  refine (tT_split R q).mono fun c H1 ⟨en1, L1, R1, q1⟩ => ?_
  cases c with
  | true => exact ⟨en1, L1, R1, q1⟩
  | false => exact ⟨en1, L1, R1, q1⟩
end

/-! ### arguments -/
def mNil : M (List SV) := mpure []
section
variable {X : Cx} {G : Gs} {e : Expr} {es : List Expr} {m : M SV} {r : M (List SV)} {pos : Pos}
theorem ja_nil : PA X [] (tA G mNil) := pa_nil.imp fun σ H Q h => by
  obtain ⟨en, L, R, q⟩ := h
  exact q _ H L R (Same.refl _) .nil
theorem RV.later {G : Gs} {H H' : Hp} {L L' : List Addr} {σ : St} {en en' : En} {v : V} {sv : SV} (R : RelS G L' σ H' en') (s : Same (hid H L) (hid H' L')) (r : RV G L σ H en v sv) (n : ∀ b, sv ≠ .own b)
    (k : ∀ i, sv = .bor i → ∃ b, en'[i]? = some (some (SV.own b))) : RV G L' σ H' en' v sv := by
  cases sv with
  | d d => exact Dq.mono s _ r
  | own b => exact absurd rfl (n b)
  | bor i => exact ⟨r.1, k i rfl⟩
/-- a slot that is lent is not let be seen by the arguments behind -/
def lentOk (en : En) : SV → Bool
  | .bor i => match en[i]? with
    | some (some (.own _)) => true
    | _ => false
  | .own _ => false
  | .d _ => true
def mCons (m : M SV) (r : M (List SV)) : M (List SV) := mbind (mfrz m) fun a => mbind r fun as en => if lentOk en a then .ok (a :: as) en else .stuck
theorem ja_cons (ha : PE X e (tE G m)) (hr : PA X es (tA G r)) (hs : starEach (e :: es) X.env = (false, eval e X.env) :: starEach es X.env := by rfl) : PA X (e :: es) (tA G (mCons m r)) := (pa_cons (je_frz ha) hr hs).imp fun σ H Q h => by
  obtain ⟨en, L, R, q⟩ := h
  have z := seqA R q
  obtain ⟨en0, L0, R0, q0⟩ := z
  refine ⟨en0, L0, R0, ?_⟩
  cases e0 : mfrz m en0 with
  | stuck => rw [e0] at q0; exact q0
  | exc x en' => rw [e0] at q0; exact q0
  | ok sv en' =>
    rw [e0] at q0
    intro v H1 L1 R1 s1 r1
    obtain ⟨en1, L1', sv1, R1', s1', r1', q1⟩ := q0 v H1 L1 R1 s1 r1
    refine (seqAA R1' q1).mono fun vs H2 ⟨en2, L2, svs, R2, s2, r2, q2⟩ => ?_
    by_cases hl : lentOk en2 sv1 = true
    · simp only [hl, if_true] at q2
      have n : ∀ b, sv1 ≠ .own b := fun b z => by subst z; cases hl
      refine q2 (v :: vs) H2 L2 R2 (Same.refl _) (.cons ⟨RV.later R2 s2 r1' n fun i e => ?_, n⟩ r2)
      subst e
      unfold lentOk at hl
      cases q : en2[i]? with
      | none => simp [q] at hl
      | some o => cases o with
        | none => simp [q] at hl
        | some s => cases s with
          | own b => exact ⟨b, rfl⟩
          | d _ => simp [q] at hl
          | bor _ => simp [q] at hl
    · simp only [hl] at q2
      exact q2.elim
end
end L2

namespace L2
open PySem PySem.Spec PyProof.Rows

/-! ### a slot's list is let be seen for good -/
theorem slot_freeze {G : Gs} {H : Hp} {L : List Addr} {σ : St} {en : En} {i : Nat} {ds : List D} {a : Addr} {xs : List V} (R : RelS G L σ H en) (e : en[i]? = some (some (SV.own (.lst ds)))) (e1 : σ[i]? = some (some (V.ref a))) (ho : H a = some (.lst xs))
    (hr : DqAll G.K (hid H L) xs ds) : RelS G (L.filter (· ≠ a)) σ H (en.set i (some (.d (.list ds)))) ∧ Same (hid H L) (hid H (L.filter (· ≠ a))) ∧ Dq G.K (hid H (L.filter (· ≠ a))) (.ref a) (.list ds) := by
  have h : ∀ b ∈ L.filter (· ≠ a), b ∈ L := fun b z => (List.mem_filter.mp z).1
  have n : a ∉ L.filter (· ≠ a) := fun z => by have := (List.mem_filter.mp z).2; simp at this
  have s := hid_less (H := H) h
  have dp : Dq G.K (hid H (L.filter (· ≠ a))) (.ref a) (.list ds) := .lst (by rw [hid_out n]; exact ho) (DqAll.mono s _ hr)
  refine ⟨⟨fun b m => R.own b (h b m), R.same.trans s, by rw [List.length_set]; exact R.len, fun j sv ej => ?_, fun j k b c a' hjk ej ek => ?_, fun b m => ?_⟩, s, dp⟩
  · by_cases hj : j = i
    · subst hj
      have hlt : j < en.length := by
        have := (List.getElem?_eq_some_iff.mp e).1
        exact this
      rw [List.getElem?_set_self hlt] at ej
      cases ej
      exact ⟨_, e1, dp⟩
    · rw [List.getElem?_set_ne (Ne.symm hj)] at ej
      have z := R.slot j sv ej
      cases sv with
      | d dd => obtain ⟨v, q1, q2⟩ := z; exact ⟨v, q1, Dq.mono s _ q2⟩
      | own b =>
        obtain ⟨c, u, q1, m, q2, q3⟩ := z
        refine ⟨c, u, q1, List.mem_filter.mpr ⟨m, decide_eq_true fun z => ?_⟩, q2, q3.mono s⟩
        subst z
        exact R.apart j i _ _ _ hj ej e q1 e1
      | bor _ => exact z
  · have key : ∀ j b, (en.set i (some (.d (.list ds))))[j]? = some (some (SV.own b)) → en[j]? = some (some (SV.own b)) := fun j b q => by
      by_cases hj : j = i
      · subst hj
        rw [List.getElem?_set_self (List.getElem?_eq_some_iff.mp e).1] at q
        cases q
      · rw [List.getElem?_set_ne (Ne.symm hj)] at q
        exact q
    exact R.apart j k b c a' hjk (key _ _ ej) (key _ _ ek)
  · obtain ⟨h1, h2, h3⟩ := R.base b m
    refine ⟨List.mem_filter.mpr ⟨h1, decide_eq_true fun z => h3 i _ e (by rw [z]; exact e1)⟩, h2, fun j c q => ?_⟩
    by_cases hj : j = i
    · subst hj
      rw [List.getElem?_set_self (List.getElem?_eq_some_iff.mp e).1] at q
      cases q
    · rw [List.getElem?_set_ne (Ne.symm hj)] at q
      exact h3 j c q
section
variable {X : Cx} {G : Gs} {e : Expr} {es : List Expr} {m : M SV} {r : M (List SV)} {pos : Pos}
theorem je_keep (h : PE X e (tE G m)) : PE X e (tE G (mkeep m)) := (je_frz h).imp fun σ H Q h => by
  obtain ⟨en, L, R, q⟩ := h
  refine (seqE R q).mono fun v H1 ⟨en1, L1, sv1, R1, s1, r1, q1⟩ => ?_
  cases sv1 with
  | d d => exact q1 v H1 L1 R1 (Same.refl _) r1
  | own o => exact q1 v H1 L1 R1 (Same.refl _) r1
  | bor i =>
    obtain ⟨e1, b, e2⟩ := r1
    simp only [e2] at q1
    cases b with
    | dct _ => exact q1.elim
    | lst ds =>
      have z := R1.slot i _ e2
      obtain ⟨a, o, e3, ma, ho, hr⟩ := z
      rw [e1] at e3
      cases e3
      cases o with
      | lst xs =>
        obtain ⟨R2, s2, dp⟩ := slot_freeze R1 e2 e1 ho hr
        exact q1 _ H1 _ R2 s2 dp
      | _ => exact hr.elim
/-! ### displays -/
def mTup (r : M (List SV)) : M SV := mbind r fun svs => fun en => match looks en svs with
  | some ds => if ds.length ≤ sizeLine ∧ svs.all (fun s => match s with | .d _ => true | _ => false) = true then .ok (.d (.tuple ds)) en else .stuck
  | none => .stuck
def mLst (r : M (List SV)) : M SV := mbind r fun svs => fun en => match looks en svs with
  | some ds => if ds.length ≤ sizeLine ∧ svs.all (fun s => match s with | .d _ => true | _ => false) = true then .ok (.own (.lst ds)) en else .stuck
  | none => .stuck
theorem all_d {G : Gs} {H : Hp} {L : List Addr} {σ : St} {en : En} : ∀ {vs : List V} {svs : List SV} {ds : List D}, RVs G L σ H en vs svs → looks en svs = some ds → svs.all (fun s => match s with | .d _ => true | _ => false) = true → DqAll G.K (hid H L) vs ds
  | _, _, _, .nil, e, _ => by
    simp only [looks, Option.some.injEq] at e
    subst e
    exact .nil
  | _, s :: _, _, .cons h t, e, f => by
    simp only [List.all_cons, Bool.and_eq_true] at f
    simp only [looks] at e
    cases s with
    | d d =>
      split at e
      · rename_i d' ds' e1 e2
        simp only [Option.some.injEq] at e
        subst e
        simp only [look, Option.some.injEq] at e1
        subst e1
        exact .cons h.1 (all_d t e2 f.2)
      · cases e
    | own _ => exact nomatch f.1
    | bor _ => exact nomatch f.1
theorem je_tup {x1} (h : PA X es (tA G r)) : PE X (.Tuple es x1 pos) (tE G (mTup r)) := (pe_tup h).imp fun σ H Q h => by
  obtain ⟨en, L, R, q⟩ := h
  refine (seqAE R q).mono fun vs H1 ⟨en1, L1, svs, R1, s1, r1, q1⟩ => ?_
  cases e : looks en1 svs with
  | none => simp only [e] at q1; exact q1.elim
  | some ds =>
    simp only [e] at q1
    split at q1
    · rename_i hz
      have dp := all_d r1 e hz.2
      exact ⟨by rw [dp.length]; exact hz.1, fun p n => post_tup R1 n dp q1⟩
    · exact q1.elim
theorem je_lst (h : PA X es (tA G r)) : PE X (.List es pos) (tE G (mLst r)) := (pe_lst h).imp fun σ H Q h => by
  obtain ⟨en, L, R, q⟩ := h
  refine (seqAE R q).mono fun vs H1 ⟨en1, L1, svs, R1, s1, r1, q1⟩ => ?_
  cases e : looks en1 svs with
  | none => simp only [e] at q1; exact q1.elim
  | some ds =>
    simp only [e] at q1
    split at q1
    · rename_i hz
      have dp := all_d r1 e hz.2
      exact ⟨by rw [dp.length]; exact hz.1, fun p n => post_lst R1 n dp q1⟩
    · exact q1.elim
end

/-! ### operations on data -/
section
variable {X : Cx} {G : Gs}
def ivD (o : Option D) : M SV := fun en => match o with
  | some d => .ok (.d d) en
  | none => .stuck
def fI2 (g : Int → Int → Option D) : D → D → M SV
  | .int i, .int j => ivD (g i j)
  | _, _ => mstuck
theorem fit_rI {C : Int → Int → Prop} {h : Int → Int → V} {g : Int → Int → Option D} (k : ∀ i j d, g i j = some d → C i j ∧ ∀ H, Dq G.K H (h i j) d) : Fits2 G (rI C h) (fI2 g) := by
  intro σ H L en x y dx dy Q R ox oy q
  unfold fI2 at q
  split at q
  · rename_i i j
    unfold ivD at q
    cases e : g i j with
    | none => rw [e] at q; exact q.elim
    | some d =>
      rw [e] at q
      obtain ⟨c, dp⟩ := k i j d e
      exact ⟨i, j, ox.int, oy.int, c, post_d R (dp _) q⟩
  · exact q.elim
theorem fit_rI0 {h : Int → Int → V} {g : Int → Int → Option D} (k : ∀ i j d, g i j = some d → ∀ H, Dq G.K H (h i j) d) : Fits2 G (rI0 h) (fI2 g) := by
  intro σ H L en x y dx dy Q R ox oy q
  unfold fI2 at q
  split at q
  · rename_i i j
    unfold ivD at q
    cases e : g i j with
    | none => rw [e] at q; exact q.elim
    | some d =>
      rw [e] at q
      exact ⟨i, j, ox.int, oy.int, post_d R (k i j d e _) q⟩
  · exact q.elim
theorem Fits2.or {r r' : R2} {f : D → D → M SV} {g : D → D → M SV} (h : Fits2 G r f) (h' : Fits2 G r' g) {k : D → D → M SV} (c : ∀ x y, k x y = f x y ∨ k x y = g x y) : Fits2 G (fun x y H Q => r x y H Q ∨ r' x y H Q) k := by
  intro σ H L en x y dx dy Q R ox oy q
  rcases c dx dy with e | e
  · rw [e] at q; exact .inl (h σ H L en x y dx dy Q R ox oy q)
  · rw [e] at q; exact .inr (h' σ H L en x y dx dy Q R ox oy q)
def dSub : D → D → M SV := fI2 fun i j => some (.int (i - j))
def dMul : D → D → M SV := fI2 fun i j => if (-(2 ^ 64) < i ∧ i < 2 ^ 64) ∨ (-(2 ^ 64) < j ∧ j < 2 ^ 64) then some (.int (i * j)) else none
def dMod : D → D → M SV := fI2 fun i j => if 0 < j then some (.int (i % j)) else none
def dDiv : D → D → M SV := fI2 fun i j => if 0 < j ∧ j < 2 ^ 64 then some (.int (i / j)) else none
def dPow : D → D → M SV := fI2 fun i j => if (0 ≤ j ∧ j ≤ 1000000) ∧ i.natAbs < 2 ^ 64 then some (.int (i ^ j.toNat)) else none
theorem fit_sub : Fits2 G (rI0 fun i j => .int (i - j)) dSub := fit_rI0 fun i j d e H => by cases e; exact .int _
theorem fit_mul : Fits2 G (rI CMul fun i j => .int (i * j)) dMul := fit_rI fun i j d e => by
  split at e
  · rename_i h; cases e; exact ⟨h, fun _ => .int _⟩
  · cases e
theorem fit_mod : Fits2 G (rI (fun _ j => 0 < j) fun i j => .int (i % j)) dMod := fit_rI fun i j d e => by
  split at e
  · rename_i h; cases e; exact ⟨h, fun _ => .int _⟩
  · cases e
theorem fit_div : Fits2 G (rI CDivW fun i j => .int (i / j)) dDiv := fit_rI fun i j d e => by
  split at e
  · rename_i h; cases e; exact ⟨wide_div (b := 64) h.1 (by omega) (by decide) (by decide), fun _ => .int _⟩
  · cases e
theorem fit_pow : Fits2 G (rI CPow fun i j => .int (i ^ j.toNat)) dPow := fit_rI fun i j d e => by
  split at e
  · rename_i h; cases e; exact ⟨⟨h.1.1, h.1.2, h.2⟩, fun _ => .int _⟩
  · cases e
end
end L2

namespace L2
open PySem PySem.Spec PyProof.Rows
section
variable {X : Cx} {G : Gs}
/-! ### + -/
def rCatR : R2 := fun x y H Q => ∃ l b xs zs, x = .ref l ∧ y = .ref b ∧ H l = some (.lst xs) ∧ H b = some (.lst zs) ∧ xs.length + zs.length ≤ sizeLine ∧ ∀ p, H p = none → Q (.ref p) (upd H p (.lst (xs ++ zs)))
theorem op_catR : OpR X (binaryOp .Add) rCatR := by
  intro pins s σ H x y v u Q I rx ry h
  obtain ⟨l, b, xs, zs, rfl, rfl, hl, hb, hz, q⟩ := h
  obtain rfl := rx
  obtain rfl := ry
  obtain ⟨z1, i1, n1, r1, e1⟩ := I.hok _ _ hl
  obtain ⟨z2, i2, n2, r2, e2⟩ := I.hok _ _ hb
  have l1 := r1.length
  have l2 := r2.length
  refine PySem.P.add_list e1 e2 ?_ (by simp only [List.size_toArray]; omega)
  rw [show i1.toArray ++ i2.toArray = (i1 ++ i2).toArray by simp]
  exact ⟨.ref s.heap.objs.size, _, I.lnew (t' := s.toks) (r1.append r2) (by rw [List.length_append]; exact hz), rfl, q _ I.fresh⟩
def rAddA (K : Kf) : R2 := fun x y H Q => rI0 (fun i j => .int (i + j)) x y H Q ∨ (∃ i j, x = .str i ∧ y = .str j ∧ i.length + j.length ≤ sizeLine ∧ Q (.str (i ++ j)) H) ∨ rCatR x y H Q ∨ rCatA K x y H Q
theorem op_addA : OpR X (binaryOp .Add) (rAddA X.K) := op_add.or (op_add_str.or (op_catR.or op_catA))
def dAdd : D → D → M SV
  | .int i, .int j => mpure (.d (.int (i + j)))
  | .str i, .str j => if i.length + j.length ≤ sizeLine then mpure (.d (.str (i ++ j))) else mstuck
  | .list xs, .list ys => if xs.length + ys.length ≤ sizeLine then mpure (.own (.lst (xs ++ ys))) else mstuck
  | .tuple xs, .tuple ys => if xs.length + ys.length ≤ sizeLine then mpure (.d (.tuple (xs ++ ys))) else mstuck
  | _, _ => mstuck
theorem Opd.tupleD {K : Kf} {H : Hp} {L : List Addr} {x : V} {ds : List D} (h : Opd K H L x (.tuple ds)) : ∃ a xs, x = .ref a ∧ SqT K (hid H L) a xs ∧ DqAll K (hid H L) xs ds := by
  rcases h with h | ⟨a, xs, es, rfl, e, h, q⟩ | ⟨a, _, _, _, e, _⟩
  · cases h with
    | tup hs ha => exact ⟨_, _, rfl, hs, ha⟩
  · exact nomatch e
  · exact nomatch e
theorem fit_add : Fits2 G (rAddA G.K) dAdd := by
  intro σ H L en x y dx dy Q R ox oy q
  unfold dAdd at q
  split at q
  · exact .inl ⟨_, _, ox.int, oy.int, post_d R (.int _) q⟩
  · split at q
    · rename_i h
      exact .inr (.inl ⟨_, _, ox.str, oy.str, h, post_d R (.str _) q⟩)
    · exact q.elim
  · split at q
    · rename_i h
      obtain ⟨a, xs, rfl, h1, h2⟩ := ox.list
      obtain ⟨b, ys, rfl, h3, h4⟩ := oy.list
      exact .inr (.inr (.inl ⟨a, b, xs, ys, rfl, rfl, h1, h3, by rw [h2.length, h4.length]; exact h, fun p n => post_lst R n (h2.append h4) q⟩))
    · exact q.elim
  · split at q
    · rename_i h
      obtain ⟨a, xs, rfl, h1, h2⟩ := ox.tupleD
      obtain ⟨b, ys, rfl, h3, h4⟩ := oy.tupleD
      refine .inr (.inr (.inr ⟨a, b, xs, ys, rfl, rfl, sqT_mono hid_same h1, sqT_mono hid_same h3, by rw [h2.length, h4.length]; exact h, fun e => ?_, fun _ e => ?_, fun _ _ p n => post_tup R n (h2.append h4) q⟩))
      · subst e
        cases h2
        exact post_d R (.tup h3 h4) q
      · subst e
        cases h4
        rw [List.append_nil] at q
        exact post_d R (.tup h1 h2) q
    · exact q.elim
  · exact q.elim
/-! ### * -/
def rMulA : R2 := fun x y H Q => rI CMul (fun i j => .int (i * j)) x y H Q ∨ ∃ z j, x = .str z ∧ y = .int j ∧ MulOk z j ∧ Q (.str (Txt.mul z j)) H
theorem op_mul_str : OpR X (binaryOp .Mult) fun x y H Q => ∃ z j, x = .str z ∧ y = .int j ∧ MulOk z j ∧ Q (.str (Txt.mul z j)) H := by
  intro pins s σ H x y v u Q I rx ry h
  obtain ⟨z, j, rfl, rfl, hm, q⟩ := h
  obtain ⟨t1, rfl⟩ := rx
  obtain ⟨t2, rfl⟩ := ry
  exact SB.mul hm fun t' k => ⟨.str _, H, I.tok _, ⟨_, rfl⟩, q⟩
theorem op_mulA : OpR X (binaryOp .Mult) rMulA := op_mul.or op_mul_str
def dMulA : D → D → M SV
  | .int i, .int j => dMul (.int i) (.int j)
  | .str z, .int j => if j = 0 then mpure (.d (.str Str.empty)) else if j = 1 then mpure (.d (.str z)) else mstuck
  | _, _ => mstuck
theorem fit_mulA : Fits2 G rMulA dMulA := by
  intro σ H L en x y dx dy Q R ox oy q
  unfold dMulA at q
  split at q
  · exact .inl (fit_mul σ H L en x y _ _ Q R ox oy q)
  · rename_i z j
    split at q
    · rename_i h
      subst h
      exact .inr ⟨z, 0, ox.str, oy.int, ⟨by decide, fun h => absurd (by decide) h, fun h => absurd (by decide) h⟩, post_d (d := .str Str.empty) R (.str _) q⟩
    · split at q
      · rename_i h
        subst h
        refine .inr ⟨z, 1, ox.str, oy.int, ⟨by decide, fun _ h => by simp at h, fun _ h => by simp at h⟩, ?_⟩
        have e : Txt.mul z 1 = z := by unfold Txt.mul; simp
        rw [e]
        exact post_d R (.str _) q
      · exact q.elim
  · exact q.elim
/-! ### == and != -/
def scalD : D → D → Option Bool
  | .int i, .int j => some (decide (i = j))
  | .str i, .str j => some (decide (i = j))
  | .bool i, .bool j => some (decide (i = j))
  | .none, .none => some true
  | .none, .int _ => some false
  | .int _, .none => some false
  | .none, .str _ => some false
  | .str _, .none => some false
  | .int _, .str _ => some false
  | .str _, .int _ => some false
  | _, _ => none
def eqD (x y : D) : Option Bool := match scalD x y with
  | some b => some b
  | none => if plain x = true ∧ plain y = true ∧ SeqAt.shaped x = true ∧ SeqAt.shaped y = true then some (PyData.eqv x y) else none
def rEqA (K : Kf) : R2 := fun x y H Q => rEq x y H Q ∨ rEqD K x y H Q
def rNeA (K : Kf) : R2 := fun x y H Q => rNe x y H Q ∨ rNeD K x y H Q
theorem op_eqA (hu : X.A.units + 64 < cLine) : OpR X (compareOp .Eq) (rEqA X.K) := op_eq.or (op_eqD hu)
theorem op_neA (hu : X.A.units + 64 < cLine) : OpR X (compareOp .NotEq) (rNeA X.K) := op_ne.or (op_neD hu)
def bvD (o : Option Bool) : M SV := fun en => match o with
  | some b => .ok (.d (.bool b)) en
  | none => .stuck
def dEq (x y : D) : M SV := bvD (eqD x y)
def dNe (x y : D) : M SV := bvD ((eqD x y).map (!·))
theorem scalD_of {K : Kf} {H : Hp} {L : List Addr} {x y : V} {dx dy : D} {b : Bool} (ox : Opd K H L x dx) (oy : Opd K H L y dy) (e : scalD dx dy = some b) : scal x y = true ∧ decide (x = y) = b := by
  unfold scalD at e
  split at e
  all_goals first
    | (cases e; done)
    | (cases e
       first | have h1 := ox.int | have h1 := ox.str | have h1 := ox.bool | have h1 := ox.none
       first | have h2 := oy.int | have h2 := oy.str | have h2 := oy.bool | have h2 := oy.none
       subst h1 h2
       exact ⟨rfl, by simp⟩)
theorem fit_eq : Fits2 G (rEqA G.K) dEq := by
  intro σ H L en x y dx dy Q R ox oy q
  unfold dEq eqD bvD at q
  cases e : scalD dx dy with
  | some b =>
    simp only [e] at q
    obtain ⟨h1, h2⟩ := scalD_of ox oy e
    exact .inl ⟨h1, by rw [h2]; exact post_d R (.bl _) q⟩
  | none =>
    simp only [e] at q
    split at q
    · rename_i b hb
      split at hb
      · rename_i hc
        cases hb
        exact .inr ⟨dx, dy, ox.dp hc.1, oy.dp hc.2.1, hc.2.2.1, hc.2.2.2, post_d R (.bl _) q⟩
      · cases hb
    · exact q.elim
theorem fit_ne : Fits2 G (rNeA G.K) dNe := by
  intro σ H L en x y dx dy Q R ox oy q
  unfold dNe eqD bvD at q
  cases e : scalD dx dy with
  | some b =>
    simp only [e, Option.map_some] at q
    obtain ⟨h1, h2⟩ := scalD_of ox oy e
    exact .inl ⟨h1, by rw [h2]; exact post_d R (.bl _) q⟩
  | none =>
    simp only [e] at q
    split at q
    · rename_i b hb
      split at hb
      · rename_i hc
        cases hb
        exact .inr ⟨dx, dy, ox.dp hc.1, oy.dp hc.2.1, hc.2.2.1, hc.2.2.2, post_d R (.bl _) q⟩
      · cases hb
    · exact q.elim
/-! ### order -/
def rLtA : R2 := fun x y H Q => rI0 (fun i j => .bl (decide (i < j))) x y H Q ∨ ∃ i j, x = .str i ∧ y = .str j ∧ Q (.bl (decide (i.cps.toList < j.cps.toList))) H
theorem op_ltA : OpR X (compareOp .Lt) rLtA := op_lt.or op_lt_str
def dLt : D → D → M SV
  | .int i, .int j => mpure (.d (.bool (decide (i < j))))
  | .str i, .str j => mpure (.d (.bool (decide (i.cps.toList < j.cps.toList))))
  | _, _ => mstuck
theorem fit_lt : Fits2 G rLtA dLt := by
  intro σ H L en x y dx dy Q R ox oy q
  unfold dLt at q
  split at q
  · exact .inl ⟨_, _, ox.int, oy.int, post_d R (.bl _) q⟩
  · exact .inr ⟨_, _, ox.str, oy.str, post_d R (.bl _) q⟩
  · exact q.elim
def rGtA : R2 := fun x y H Q => rI0 (fun i j => .bl (decide (j < i))) x y H Q ∨ ∃ i j, x = .str i ∧ y = .str j ∧ Q (.bl (decide (j.cps.toList < i.cps.toList))) H
theorem op_gtA : OpR X (compareOp .Gt) rGtA := op_gt.or op_gt_str
def dGt : D → D → M SV
  | .int i, .int j => mpure (.d (.bool (decide (j < i))))
  | .str i, .str j => mpure (.d (.bool (decide (j.cps.toList < i.cps.toList))))
  | _, _ => mstuck
theorem fit_gt : Fits2 G rGtA dGt := by
  intro σ H L en x y dx dy Q R ox oy q
  unfold dGt at q
  split at q
  · exact .inl ⟨_, _, ox.int, oy.int, post_d R (.bl _) q⟩
  · exact .inr ⟨_, _, ox.str, oy.str, post_d R (.bl _) q⟩
  · exact q.elim
def rLeA : R2 := fun x y H Q => rI0 (fun i j => .bl (decide (i ≤ j))) x y H Q ∨ ∃ i j, x = .str i ∧ y = .str j ∧ Q (.bl (!decide (j.cps.toList < i.cps.toList))) H
theorem op_leA : OpR X (compareOp .LtE) rLeA := op_le.or op_le_str
def dLe : D → D → M SV
  | .int i, .int j => mpure (.d (.bool (decide (i ≤ j))))
  | .str i, .str j => mpure (.d (.bool (!decide (j.cps.toList < i.cps.toList))))
  | _, _ => mstuck
theorem fit_le : Fits2 G rLeA dLe := by
  intro σ H L en x y dx dy Q R ox oy q
  unfold dLe at q
  split at q
  · exact .inl ⟨_, _, ox.int, oy.int, post_d R (.bl _) q⟩
  · exact .inr ⟨_, _, ox.str, oy.str, post_d R (.bl _) q⟩
  · exact q.elim
def rGeA : R2 := fun x y H Q => rI0 (fun i j => .bl (decide (j ≤ i))) x y H Q ∨ ∃ i j, x = .str i ∧ y = .str j ∧ Q (.bl (!decide (i.cps.toList < j.cps.toList))) H
theorem op_geA : OpR X (compareOp .GtE) rGeA := op_ge.or op_ge_str
def dGe : D → D → M SV
  | .int i, .int j => mpure (.d (.bool (decide (j ≤ i))))
  | .str i, .str j => mpure (.d (.bool (!decide (i.cps.toList < j.cps.toList))))
  | _, _ => mstuck
theorem fit_ge : Fits2 G rGeA dGe := by
  intro σ H L en x y dx dy Q R ox oy q
  unfold dGe at q
  split at q
  · exact .inl ⟨_, _, ox.int, oy.int, post_d R (.bl _) q⟩
  · exact .inr ⟨_, _, ox.str, oy.str, post_d R (.bl _) q⟩
  · exact q.elim
/-! ### is -/
def rIsA : R2 := fun x y H Q => rIsN x y H Q ∨ rIsB x y H Q
theorem op_isA : OpR X (compareOp .Is) rIsA := op_isN1.or op_isBl
def rNisA : R2 := fun x y H Q => rNotN x y H Q ∨ rNotB x y H Q
theorem op_nisA : OpR X (compareOp .IsNot) rNisA := op_notN1.or op_notBl
def isNone : D → Bool
  | .none => true
  | _ => false
def dIs : D → D → M SV
  | x, .none => mpure (.d (.bool (isNone x)))
  | .bool a, .bool b => mpure (.d (.bool (decide (a = b))))
  | _, _ => mstuck
def dNis : D → D → M SV
  | x, .none => mpure (.d (.bool (!isNone x)))
  | .bool a, .bool b => mpure (.d (.bool (!decide (a = b))))
  | _, _ => mstuck
theorem isNoneD_of {K : Kf} {H : Hp} {L : List Addr} {x : V} {dx : D} (ox : Opd K H L x dx) : decide (x = .non) = isNone dx := by
  cases dx with
  | none => rw [ox.none]; rfl
  | bool b => rw [ox.bool]; rfl
  | int b => rw [ox.int]; rfl
  | str b => rw [ox.str]; rfl
  | list ds => obtain ⟨a, _, rfl, _⟩ := ox.list; rfl
  | tuple ds => obtain ⟨a, _, rfl, _⟩ := ox.tuple; rfl
  | dict kvs =>
    rcases ox with h | ⟨a, xs, es, rfl, e, h, q⟩ | ⟨a, _, _, rfl, e, _⟩
    · cases h <;> rfl
    · rfl
    · rfl
theorem fit_is : Fits2 G rIsA dIs := by
  intro σ H L en x y dx dy Q R ox oy q
  unfold dIs at q
  split at q
  · exact .inl ⟨oy.none, by rw [isNoneD_of ox]; exact post_d R (.bl _) q⟩
  · exact .inr ⟨_, _, ox.bool, oy.bool, post_d R (.bl _) q⟩
  · exact q.elim
theorem fit_nis : Fits2 G rNisA dNis := by
  intro σ H L en x y dx dy Q R ox oy q
  unfold dNis at q
  split at q
  · exact .inl ⟨oy.none, by rw [isNoneD_of ox]; exact post_d R (.bl _) q⟩
  · exact .inr ⟨_, _, ox.bool, oy.bool, post_d R (.bl _) q⟩
  · exact q.elim
/-! ### in -/
def isFlat : D → Bool
  | .none => true
  | .bool _ => true
  | .int _ => true
  | .str _ => true
  | _ => false
def inD (x y : D) : Option Bool := match x, y with
  | .str s, .str z => match s.cps.toList with
    | [c] => some (decide (c ∈ z.cps.toList))
    | _ => none
  | x, .list ds => if isFlat x = true ∧ ds.all isFlat = true then some (ds.any fun d => PyData.eqv d x) else
      if plain x = true ∧ plains ds = true ∧ SeqAt.shaped x = true ∧ SeqAt.shaped (.list ds) = true then some (ds.any fun d => PyData.eqv d x) else none
  | x, .tuple ds => if isFlat x = true ∧ ds.all isFlat = true then some (ds.any fun d => PyData.eqv d x) else none
  | _, _ => none
def dIn (x y : D) : M SV := bvD (inD x y)
def dNin (x y : D) : M SV := bvD ((inD x y).map (!·))
def rInA (K : Kf) : R2 := fun x y H Q => rInS x y H Q ∨ rIn K false x y H Q ∨ rInD K x y H Q
def rNinA (K : Kf) : R2 := fun x y H Q => rNotInS x y H Q ∨ rIn K true x y H Q ∨ rNotInD K x y H Q
theorem op_inA (hu : X.A.units + 65 < cLine) : OpR X (compareOp .In) (rInA X.K) := op_inS.or (op_in_seq.or (op_inD hu))
theorem op_ninA (hu : X.A.units + 65 < cLine) : OpR X (compareOp .NotIn) (rNinA X.K) := op_notInS.or (op_notIn_seq.or (op_notInD hu))
theorem flat_v {K : Kf} {H : Hp} {v : V} {d : D} (h : Dq K H v d) (f : isFlat d = true) : flatV v = true := by
  cases h <;> first | rfl | cases f
theorem flats_v {K : Kf} {H : Hp} : ∀ {vs : List V} {ds : List D}, DqAll K H vs ds → ds.all isFlat = true → vs.all flatV = true
  | _, _, .nil, _ => rfl
  | _, _, .cons h t, f => by
    simp only [List.all_cons, Bool.and_eq_true] at f ⊢
    exact ⟨flat_v h f.1, flats_v t f.2⟩
theorem eqV_eqv {K : Kf} {H : Hp} {v w : V} {d e : D} (h : Dq K H v d) (g : Dq K H w e) (f : isFlat d = true) (f2 : isFlat e = true) : eqV v w = PyData.eqv d e := by
  cases h <;> first
    | (cases f; done)
    | (cases g <;> first
        | (cases f2; done)
        | (simp only [eqV, PyData.eqv]; done)
        | (simp only [eqV, PyData.eqv]; rfl))
theorem inV_inD {K : Kf} {H : Hp} {v : V} {d : D} (h : Dq K H v d) (f : isFlat d = true) : ∀ {vs : List V} {ds : List D}, DqAll K H vs ds → ds.all isFlat = true → inV v vs = ds.any fun z => PyData.eqv z d
  | _, _, .nil, _ => rfl
  | _, _, .cons g t, f2 => by
    simp only [List.all_cons, Bool.and_eq_true] at f2
    have ih := inV_inD h f t f2.2
    unfold inV at ih ⊢
    rw [List.any_cons, List.any_cons, ih, eqV_eqv g h f2.1 f]
theorem Opd.flat {K : Kf} {H : Hp} {L : List Addr} {x : V} {d : D} (h : Opd K H L x d) (f : isFlat d = true) : Dq K (hid H L) x d := by
  rcases h with h | ⟨a, xs, es, rfl, rfl, h, q⟩ | ⟨a, _, _, _, rfl, _⟩
  · exact h
  · cases f
  · cases f
theorem in_rule {K : Kf} {H : Hp} {L : List Addr} {x y : V} {dx dy : D} {b : Bool} {neg : Bool} {Q : VK} (ox : Opd K H L x dx) (oy : Opd K H L y dy) (e : inD dx dy = some b) (q : Q (.bl (if neg then !b else b)) H) :
    (∃ (c : Nat) (z : Str), x = .str ⟨#[c]⟩ ∧ y = .str z ∧ b = decide (c ∈ z.cps.toList)) ∨ rIn K neg x y H Q ∨ ∃ d ds, Dp K H x d ∧ Dp K H y (.list ds) ∧ SeqAt.shaped d = true ∧ SeqAt.shaped (.list ds) = true ∧ b = ds.any fun z => PyData.eqv z d := by
  unfold inD at e
  split at e
  · split at e
    · rename_i s z l c hs
      cases e
      refine .inl ⟨c, z, ?_, oy.str, rfl⟩
      rw [ox.str]
      congr 1
      cases s with
      | mk a =>
        congr 1
        exact Array.ext' hs
    · cases e
  · rename_i ds
    split at e
    · rename_i h
      cases e
      obtain ⟨a, xs, rfl, h1, h2⟩ := oy.list
      have fx := ox.flat h.1
      refine .inr (.inl ⟨a, xs, rfl, .inl (.of h1), flat_v fx h.1, flats_v h2 h.2, ?_⟩)
      rw [inV_inD fx h.1 h2 h.2]
      exact q
    · split at e
      · rename_i h
        cases e
        exact .inr (.inr ⟨_, _, ox.dp h.1, oy.dp (by simpa [plain] using h.2.1), h.2.2.1, h.2.2.2, rfl⟩)
      · cases e
  · rename_i ds
    split at e
    · rename_i h
      cases e
      obtain ⟨a, xs, rfl, h1, h2⟩ := oy.tuple
      have fx := ox.flat h.1
      refine .inr (.inl ⟨a, xs, rfl, .inr h1, flat_v fx h.1, flats_v h2 h.2, ?_⟩)
      rw [inV_inD fx h.1 h2 h.2]
      exact q
    · cases e
  · cases e
theorem fit_in : Fits2 G (rInA G.K) dIn := by
  intro σ H L en x y dx dy Q R ox oy q
  unfold dIn bvD at q
  cases e : inD dx dy with
  | none => rw [e] at q; exact q.elim
  | some b =>
    rw [e] at q
    have q' : Q (.bl b) H := post_d R (.bl _) q
    rcases in_rule (neg := false) ox oy e q' with ⟨c, z, e1, e2, e3⟩ | h | ⟨d, ds, h1, h2, h3, h4, h5⟩
    · exact .inl ⟨c, z, e1, e2, by rw [← e3]; exact q'⟩
    · exact .inr (.inl h)
    · exact .inr (.inr ⟨d, ds, h1, h2, h3, h4, by rw [← h5]; exact q'⟩)
theorem fit_nin : Fits2 G (rNinA G.K) dNin := by
  intro σ H L en x y dx dy Q R ox oy q
  unfold dNin bvD at q
  cases e : inD dx dy with
  | none => rw [e] at q; exact q.elim
  | some b =>
    rw [e] at q
    have q' : Q (.bl (!b)) H := post_d R (.bl _) q
    rcases in_rule (neg := true) ox oy e q' with ⟨c, z, e1, e2, e3⟩ | h | ⟨d, ds, h1, h2, h3, h4, h5⟩
    · exact .inl ⟨c, z, e1, e2, by rw [← e3]; exact q'⟩
    · exact .inr (.inl h)
    · exact .inr (.inr ⟨d, ds, h1, h2, h3, h4, by rw [← h5]; exact q'⟩)
end
end L2

namespace L2
open PySem PySem.Spec PyProof.Rows
section
variable {X : Cx} {G : Gs}
/-! ### an item -/
def rIxDct : R2 := fun x y H Q => ∃ a v, x = .ref a ∧ DGet H a y (some v) ∧ Q v H
theorem ix_dict (hu : X.A.units + 1 < cLine) : IxR X rIxDct := by
  intro value slice pins s σ H x y v u Q I rx ry h hs
  obtain ⟨a, z, rfl, g, q⟩ := h
  obtain rfl := rx
  exact tail_any (dict_typeIs I g) PySem.F.slot_dict_getitem.lookup (d_getItem hu I g ry fun w' s' I' r' => ⟨z, H, I', r', q⟩) hs
def rIxA (K : Kf) : R2 := fun x y H Q => rIx K x y H Q ∨ rIxDct x y H Q
theorem ix_A (hu : X.A.units + 1 < cLine) : IxR X (rIxA X.K) := ix_seq.or (ix_dict hu)
def keyD : D → Option Key
  | .int i => some (.inl i)
  | .str s => some (.inr s)
  | _ => none
def lookD (k : D) : List (D × D) → Option D
  | [] => none
  | (a, b) :: r => if keyD a = keyD k then some b else lookD k r
def ixD : D → D → Option D
  | .list ds, .int i => atI ds i
  | .tuple ds, .int i => atI ds i
  | .str z, .int i => if z.length ≤ sizeLine then (atI z.cps.toList i).map fun c => .str ⟨#[c]⟩ else none
  | .dict [(.none, .list ds)], .int i => atI ds i
  | .dict kds, k => if (keyD k).isSome then lookD k kds else none
  | _, _ => none
def dIx (x y : D) : M SV := ivD (ixD x y)
theorem atI_dq {K : Kf} {H : Hp} {xs : List V} {ds : List D} {i : Int} {d : D} (h : DqAll K H xs ds) (e : atI ds i = some d) : ∃ v, atI xs i = some v ∧ Dq K H v d := by
  unfold atI at e ⊢
  rw [h.length]
  cases q : ixN ds.length i with
  | none => rw [q] at e; cases e
  | some j =>
    rw [q] at e
    exact h.get e
theorem atI_ints {ns : List Int} {i : Int} {d : D} (e : atI (ns.map PyData.int) i = some d) : ∃ n, d = .int n ∧ atI (ns.map V.int) i = some (.int n) := by
  unfold atI at e ⊢
  rw [List.length_map] at e ⊢
  cases q : ixN ns.length i with
  | none => rw [q] at e; cases e
  | some j =>
    rw [q] at e
    simp only [Option.bind_some, List.getElem?_map] at e ⊢
    cases z : ns[j]? with
    | none => rw [z] at e; cases e
    | some n => rw [z] at e; cases e; exact ⟨n, rfl, rfl⟩
theorem valV_look {K : Kf} {H : Hp} {k : Key} {d : D} : ∀ {kvs : List (Key × V)} {kds : List (Key × D)}, KD K H kvs kds → lookD (kD k) (kds.map fun p => (kD p.1, p.2)) = some d → ∃ v, valV kvs k = some v ∧ Dq K H v d
  | _, _, .nil, e => by simp [lookD] at e
  | p :: _, q :: _, .cons ⟨h1, h2⟩ t, e => by
    simp only [List.map_cons, lookD] at e
    have kk : ∀ a : Key, keyD (kD a) = some a := fun a => by cases a <;> rfl
    rw [kk, kk] at e
    by_cases h : q.1 = k
    · rw [if_pos (by rw [h])] at e
      cases e
      exact ⟨p.2, valV_pos (h1.trans h), h2⟩
    · rw [if_neg (fun z => h (Option.some.inj z))] at e
      obtain ⟨v, e1, e2⟩ := valV_look t e
      exact ⟨v, by rw [valV_neg (fun z => h (h1.symm.trans z))]; exact e1, e2⟩
theorem Opd.list' {K : Kf} {H : Hp} {L : List Addr} {x : V} {ds : List D} (h : Opd K H L x (.list ds)) : ∃ a xs, x = .ref a ∧ SqL K H a xs ∧ DqAll K (hid H L) xs ds := by
  obtain ⟨a, xs, e, h1, h2⟩ := h.list
  exact ⟨a, xs, e, .of h1, h2⟩
/-- a dict that is at hand -/
theorem Opd.dct {K : Kf} {H : Hp} {L : List Addr} {x : V} {kds : List (D × D)} (h : Opd K H L x (.dict kds)) : (∃ (a : Addr) (ns : List Int), x = .ref a ∧ kds = [(.none, .list (ns.map .int))] ∧ SqL K H a (ns.map V.int)) ∨
    ∃ a kvs ks, x = .ref a ∧ kds = (ks.map fun p : Key × D => (kD p.1, p.2)) ∧ H a = some (.dK kvs) ∧ KD K (hid H L) kvs ks := by
  rcases h with h | ⟨a, xs, es, rfl, e, h, q⟩ | ⟨a, kvs, ks, rfl, e, h, q⟩
  · cases h with
    | scr hs => exact .inl ⟨_, _, rfl, rfl, hid_same.seq hs⟩
    | dct ho hk => exact .inr ⟨_, _, _, rfl, rfl, hid_same _ _ ho, KA.kd hk⟩
  · exact nomatch e
  · unfold dctD at e
    injection e with e
    exact .inr ⟨a, kvs, ks, rfl, e, h, q⟩
theorem key_of_D {K : Kf} {H : Hp} {L : List Addr} {y : V} {dy : D} {k : Key} (oy : Opd K H L y dy) (e : keyD dy = some k) : y = kV k ∧ dy = kD k := by
  cases dy with
  | int i => cases e; exact ⟨oy.int, rfl⟩
  | str s => cases e; exact ⟨oy.str, rfl⟩
  | _ => cases e
theorem fit_ix : Fits2 G (rIxA G.K) dIx := by
  intro σ H L en x y dx dy Q R ox oy q
  unfold dIx ivD at q
  cases e : ixD dx dy with
  | none => rw [e] at q; exact q.elim
  | some d =>
    rw [e] at q
    unfold ixD at e
    split at e
    · obtain ⟨a, xs, rfl, h1, h2⟩ := ox.list'
      obtain ⟨v, e1, hv⟩ := atI_dq h2 e
      exact .inl (.inl ⟨a, xs, _, v, rfl, oy.int, h1, e1, post_d R hv q⟩)
    · obtain ⟨a, xs, rfl, h1, h2⟩ := ox.tuple
      obtain ⟨v, e1, hv⟩ := atI_dq h2 e
      exact .inl (.inr (.inl ⟨a, xs, _, v, rfl, oy.int, h1, e1, post_d R hv q⟩))
    · split at e
      · rename_i z i hz
        cases e1 : atI z.cps.toList i with
        | none => rw [e1] at e; cases e
        | some c =>
          rw [e1] at e
          cases e
          exact .inl (.inr (.inr ⟨z, i, c, ox.str, oy.int, hz, e1, post_d R (.str _) q⟩))
      · cases e
    · rcases ox.dct with ⟨a, ns, rfl, e2, hs⟩ | ⟨a, kvs, ks, rfl, e2, ho, hk⟩
      · injection e2 with e2 _
        injection e2 with _ e2
        injection e2 with e2
        subst e2
        obtain ⟨n, rfl, e1⟩ := atI_ints e
        exact .inl (.inl ⟨a, _, _, _, rfl, oy.int, hs, e1, post_d R (.int n) q⟩)
      · cases ks with
        | nil => cases e2
        | cons p r =>
          injection e2 with e2 _
          injection e2 with e2 _
          cases h1 : p.1 <;> (rw [h1] at e2; exact nomatch e2)
    · rename_i kds hne
      split at e
      · rename_i hk
        obtain ⟨k, ek⟩ := Option.isSome_iff_exists.mp hk
        obtain ⟨ey, ed⟩ := key_of_D oy ek
        rcases ox.dct with ⟨a, ns, rfl, e2, hs⟩ | ⟨a, kvs, ks, rfl, e2, ho, hkd⟩
        · subst e2
          rw [ed] at e
          cases k <;> simp [lookD, keyD, kD] at e
        · subst e2
          rw [ed] at e
          obtain ⟨v, e1, hv⟩ := valV_look hkd e
          refine .inr ⟨a, v, rfl, ?_, post_d R hv q⟩
          rw [ey, ← e1]
          exact DGet.k ho
      · cases e
    · cases e
theorem je_item {a b : Expr} {ma mb : M SV} {pos : Pos} (hK : X.K = G.K) (hu : X.A.units + 1 < cLine) (ha : PE X a (tE G ma)) (hb : PE X b (tE G mb)) (hs : PlainIx b := by exact fun _ _ => rfl) : PE X (.Subscript a b pos) (tE G (mOp2 dIx ma mb)) :=
  je_ix (ix_A hu) (hK ▸ fit_ix) ha hb hs

/-! ### slices -/
def mSl (f : D → Option Int → Option Int → M SV) (ma : M SV) (lo hi : Option (M SV)) : M SV := mbind (mfrz ma) fun a =>
  match lo with
  | none => (match hi with
    | none => fun en => match look en a with
      | some x => f x none none en
      | none => .stuck
    | some mh => mbind (mfrz mh) fun h en => match look en a, look en h with
      | some x, some (.int j) => f x none (some j) en
      | _, _ => .stuck)
  | some ml => mbind (mfrz ml) fun l => match hi with
    | none => fun en => match look en a, look en l with
      | some x, some (.int i) => f x (some i) none en
      | _, _ => .stuck
    | some mh => mbind (mfrz mh) fun h en => match look en a, look en l, look en h with
      | some x, some (.int i), some (.int j) => f x (some i) (some j) en
      | _, _, _ => .stuck

/-! ### calls of what is built in -/
def mCallD (f : List D → M SV) (mas : M (List SV)) : M SV := mbind mas fun svs en => match looks en svs with
  | some ds => f ds en
  | none => .stuck
def FitsC (G : Gs) (r : List V → Hp → VK → Prop) (f : List D → M SV) : Prop := ∀ σ H L en vs ds Q, RelS G L σ H en → OpdAll G.K H L vs ds → PostE G σ H L (f ds en) Q → r vs H Q
theorem callD_imp {r : List V → Hp → VK → Prop} {f : List D → M SV} {mas : M (List SV)} (F : FitsC G r f) (σ : St) (H : Hp) (Q : VK) (h : tE G (mCallD f mas) σ H Q) : tCB r (tA G mas) σ H Q := by
  obtain ⟨en, L, R, q⟩ := h
  refine (seqAE R q).mono fun vs H1 ⟨en1, L1, svs, R1, s1, r1, q1⟩ => ?_
  cases e : looks en1 svs with
  | none => simp only [e] at q1; exact q1.elim
  | some ds =>
    simp only [e] at q1
    exact F σ H1 L1 en1 vs ds Q R1 (RVs.opd R1 (Same.refl _) r1 e) q1
theorem je_callB {id : String} {r : List V → Hp → VK → Prop} {f : List D → M SV} {mas : M (List SV)} {x : Str} {p pos : Pos} {e : Expr} {es : List Expr} (hc : CallR X (.builtin id) r) (F : FitsC G r f) (hg : Gl X x) (hm : X.mg x = none) (hv : bootBuiltins x = some (.builtin id)) (ha : PA X (e :: es) (tA G mas)) (hn : x ≠ "__name__" := by decide) (hdb : (x == ("__debug__" : Str)) = false := by decide)
    (he : starEach (e :: es) X.env = (false, eval e X.env) :: starEach es X.env := by rfl) (hpl : (backTo pos (starEach es X.env)).any (·.1) = false := by rfl) : PE X (.Call (.Name x p) (e :: es) [] pos) (tE G (mCallD f mas)) :=
  (pe_callB hc hg hm hv ha hn hdb he hpl).imp (callD_imp F)
theorem je_callTy {T : String} {r : List V → Hp → VK → Prop} {f : List D → M SV} {mas : M (List SV)} {x : Str} {p pos : Pos} {e : Expr} {es : List Expr} (hc : CallR X (.type T) r) (F : FitsC G r f) (hg : Gl X x) (hm : X.mg x = none) (hv : bootBuiltins x = some (.type T)) (ha : PA X (e :: es) (tA G mas)) (hn : x ≠ "__name__" := by decide) (hdb : (x == ("__debug__" : Str)) = false := by decide)
    (he : starEach (e :: es) X.env = (false, eval e X.env) :: starEach es X.env := by rfl) (hpl : (backTo pos (starEach es X.env)).any (·.1) = false := by rfl) : PE X (.Call (.Name x p) (e :: es) [] pos) (tE G (mCallD f mas)) :=
  (pe_callTy hc hg hm hv ha hn hdb he hpl).imp (callD_imp F)
/-- one argument -/
def d1 (f : D → M SV) : List D → M SV
  | [x] => f x
  | _ => mstuck
theorem fit1 {r : List V → Hp → VK → Prop} {f : D → M SV} (k : ∀ σ H L en x d Q, RelS G L σ H en → Opd G.K H L x d → PostE G σ H L (f d en) Q → r [x] H Q) : FitsC G r (d1 f) := by
  intro σ H L en vs ds Q R o q
  unfold d1 at q
  split at q
  · cases o with
    | cons h t => cases t; exact k σ H L en _ _ Q R h q
  · exact q.elim
/-- len -/
def lenD : D → Option Int
  | .str z => if z.length ≤ sizeLine then some z.length else none
  | .list ds => some ds.length
  | .tuple ds => some ds.length
  | .dict [(.none, .list ds)] => some ds.length
  | .dict kds => some kds.length
  | _ => none
def dLen (x : D) : M SV := ivD ((lenD x).map .int)
def rLenA (K : Kf) : List V → Hp → VK → Prop := fun xs H Q => (∃ x n, xs = [x] ∧ LenV K x H n ∧ Q (.int n) H) ∨ ∃ a kvs, xs = [V.ref a] ∧ H a = some (.dK kvs) ∧ Q (.int kvs.length) H
theorem call_lenA : CallR X (.builtin "len") (rLenA X.K) := call_len.or call_lenD
theorem fit_len : FitsC G (rLenA G.K) (d1 dLen) := fit1 fun σ H L en x d Q R o q => by
  unfold dLen ivD at q
  cases e : lenD d with
  | none => rw [e] at q; exact q.elim
  | some n =>
    rw [e] at q
    have q' : Q (.int n) H := post_d (d := .int n) R (.int _) q
    unfold lenD at e
    split at e
    · split at e
      · rename_i h
        cases e
        exact .inl ⟨x, _, rfl, by rw [o.str]; exact ⟨h, rfl⟩, q'⟩
      · cases e
    · cases e
      obtain ⟨a, xs, rfl, h1, h2⟩ := o.list'
      exact .inl ⟨_, xs.length, rfl, .inl ⟨xs, h1, rfl⟩, by rw [h2.length]; exact q'⟩
    · cases e
      obtain ⟨a, xs, rfl, h1, h2⟩ := o.tuple
      exact .inl ⟨_, xs.length, rfl, .inr ⟨xs, h1, rfl⟩, by rw [h2.length]; exact q'⟩
    · cases e
      rcases o.dct with ⟨a, ns, rfl, e2, hs⟩ | ⟨a, kvs, ks, rfl, e2, ho, hk⟩
      · injection e2 with e2 _
        injection e2 with _ e2
        injection e2 with e2
        subst e2
        exact .inl ⟨_, (ns.map V.int).length, rfl, .inl ⟨_, hs, rfl⟩, by rw [List.length_map] at q' ⊢; exact q'⟩
      · cases ks with
        | nil => cases e2
        | cons p r =>
          injection e2 with e2 _
          injection e2 with e2 _
          cases h1 : p.1 <;> (rw [h1] at e2; exact nomatch e2)
    · rename_i kds hne
      cases e
      rcases o.dct with ⟨a, ns, rfl, e2, hs⟩ | ⟨a, kvs, ks, rfl, e2, ho, hk⟩
      · exact (hne _ (by rw [e2])).elim
      · subst e2
        rw [List.length_map] at q'
        have hl : kvs.length = ks.length := Paired.length hk
        exact .inr ⟨a, kvs, rfl, ho, by rw [hl]; exact q'⟩
    · cases e
/-- int of an int, a bool -/
def dInt : D → M SV
  | .int i => mpure (.d (.int i))
  | .bool b => mpure (.d (.int (if b then 1 else 0)))
  | _ => mstuck
theorem fit_int : FitsC G (fun xs H Q => (∃ i, xs = [.int i] ∧ Q (.int i) H) ∨ ∃ k, xs = [.bl k] ∧ Q (.int (if k then 1 else 0)) H) (d1 dInt) := fit1 fun σ H L en x d Q R o q => by
  unfold dInt at q
  split at q
  · exact .inl ⟨_, by rw [o.int], post_d R (.int _) q⟩
  · exact .inr ⟨_, by rw [o.bool], post_d R (.int _) q⟩
  · exact q.elim
/-- two ints -/
def d2I (g : Int → Int → D) : List D → M SV
  | [.int i, .int j] => mpure (.d (g i j))
  | _ => mstuck
theorem fit2I {h : Int → Int → Int} : FitsC G (fun xs H Q => ∃ i j, xs = [.int i, .int j] ∧ Q (.int (h i j)) H) (d2I fun i j => .int (h i j)) := by
  intro σ H L en vs ds Q R o q
  unfold d2I at q
  split at q
  · cases o with
    | cons h1 t =>
      cases t with
      | cons h2 t =>
        cases t
        exact ⟨_, _, by rw [h1.int, h2.int], post_d R (.int _) q⟩
  · exact q.elim
abbrev dMax2 : List D → M SV := d2I fun i j => .int (if j > i then j else i)
abbrev dMin2 : List D → M SV := d2I fun i j => .int (if j < i then j else i)
theorem fit_max2 : FitsC G (fun xs H Q => ∃ i j, xs = [.int i, .int j] ∧ Q (.int (if j > i then j else i)) H) dMax2 := fit2I
theorem fit_min2 : FitsC G (fun xs H Q => ∃ i j, xs = [.int i, .int j] ∧ Q (.int (if j < i then j else i)) H) dMin2 := fit2I
/-- list(..), tuple(..) of a list, a tuple -/
def dList : D → M SV
  | .list ds => mpure (.own (.lst ds))
  | .tuple ds => mpure (.own (.lst ds))
  | _ => mstuck
theorem fit_list : FitsC G (fun xs H Q => ∃ p ys, xs = [.ref p] ∧ (SqL G.K H p ys ∨ SqT G.K H p ys) ∧ ∀ l, H l = none → Q (.ref l) (upd H l (.lst ys))) (d1 dList) := fit1 fun σ H L en x d Q R o q => by
  unfold dList at q
  split at q
  · obtain ⟨a, xs, rfl, h1, h2⟩ := o.list'
    exact ⟨a, xs, rfl, .inl h1, fun l n => post_lst R n h2 q⟩
  · obtain ⟨a, xs, rfl, h1, h2⟩ := o.tuple
    exact ⟨a, xs, rfl, .inr h1, fun l n => post_lst R n h2 q⟩
  · exact q.elim
def dTuple : D → M SV
  | .list ds => mpure (.d (.tuple ds))
  | .tuple ds => mpure (.d (.tuple ds))
  | _ => mstuck
theorem fit_tuple : FitsC G (fun xs H Q => ∃ p ys, xs = [.ref p] ∧ ((SqL G.K H p ys ∧ ∀ l, H l = none → Q (.ref l) (upd H l (.tup ys))) ∨ (SqT G.K H p ys ∧ Q (.ref p) H))) (d1 dTuple) := fit1 fun σ H L en x d Q R o q => by
  unfold dTuple at q
  split at q
  · obtain ⟨a, xs, rfl, h1, h2⟩ := o.list'
    exact ⟨a, xs, rfl, .inl ⟨h1, fun l n => post_tup R n h2 q⟩⟩
  · obtain ⟨a, xs, rfl, h1, h2⟩ := o.tupleD
    exact ⟨a, xs, rfl, .inr ⟨sqT_mono hid_same h1, post_d R (.tup h1 h2) q⟩⟩
  · exact q.elim
/-- all, any of a list of bools -/
def bools : List D → Option (List Bool)
  | [] => some []
  | .bool b :: r => (bools r).map (b :: ·)
  | _ => none
theorem bools_v {K : Kf} {H : Hp} : ∀ {ds : List D} {vs : List V} {bs : List Bool}, DqAll K H vs ds → bools ds = some bs → vs = bs.map V.bl
  | [], _, _, .nil, e => by cases e; rfl
  | .bool b :: r, _, _, .cons h t, e => by
    simp only [bools] at e
    cases q : bools r with
    | none => rw [q] at e; cases e
    | some cs =>
      rw [q] at e
      cases e
      cases h
      rw [bools_v t q]
      rfl
  | .none :: _, _, _, _, e => nomatch e
  | .int _ :: _, _, _, _, e => nomatch e
  | .str _ :: _, _, _, _, e => nomatch e
  | .list _ :: _, _, _, _, e => nomatch e
  | .tuple _ :: _, _, _, _, e => nomatch e
  | .dict _ :: _, _, _, _, e => nomatch e
def dAll : D → M SV
  | .list ds => bvD ((bools ds).map fun bs => bs.all id)
  | _ => mstuck
def dAny : D → M SV
  | .list ds => bvD ((bools ds).map fun bs => bs.any id)
  | _ => mstuck
theorem fit_all : FitsC G (rAll G.K) (d1 dAll) := fit1 fun σ H L en x d Q R o q => by
  unfold dAll at q
  split at q
  · rename_i ds
    obtain ⟨a, xs, rfl, h1, h2⟩ := o.list'
    cases e : bools ds with
    | none => rw [e] at q; exact q.elim
    | some bs =>
      rw [e] at q
      have z := bools_v h2 e
      subst z
      exact ⟨a, bs, rfl, h1, post_d (d := .bool (bs.all id)) R (.bl _) q⟩
  · exact q.elim
theorem fit_any : FitsC G (rAny G.K) (d1 dAny) := fit1 fun σ H L en x d Q R o q => by
  unfold dAny at q
  split at q
  · rename_i ds
    obtain ⟨a, xs, rfl, h1, h2⟩ := o.list'
    cases e : bools ds with
    | none => rw [e] at q; exact q.elim
    | some bs =>
      rw [e] at q
      have z := bools_v h2 e
      subst z
      exact ⟨a, bs, rfl, h1, post_d (d := .bool (bs.any id)) R (.bl _) q⟩
  · exact q.elim
/-! ### isinstance of a built-in type -/
inductive TyN where
  | tInt | tBool | tStr | tTuple | tList
def TyN.name : TyN → String
  | .tInt => "int"
  | .tBool => "bool"
  | .tStr => "str"
  | .tTuple => "tuple"
  | .tList => "list"
def tyOf : D → Option String
  | .none => some "NoneType"
  | .bool _ => some "bool"
  | .int _ => some "int"
  | .str _ => some "str"
  | .list _ => some "list"
  | .tuple _ => some "tuple"
  | .dict _ => none
def isiD : TyN → D → Option Bool
  | _, .dict _ => none
  | .tInt, .int _ => some true
  | .tInt, .bool _ => some true
  | .tBool, .bool _ => some true
  | .tStr, .str _ => some true
  | .tTuple, .tuple _ => some true
  | .tList, .list _ => some true
  | _, _ => some false
theorem tyX_of {K : Kf} {H : Hp} {L : List Addr} {x : V} {d : D} {n : String} (o : Opd K H L x d) (e : tyOf d = some n) : TyX K H x (.type n) := by
  cases d with
  | none => cases e; rw [o.none]; exact .base .non
  | bool b => cases e; rw [o.bool]; exact .base (.bl b)
  | int i => cases e; rw [o.int]; exact .base (.int i)
  | str s => cases e; rw [o.str]; exact .base (.str s)
  | list ds =>
    cases e
    obtain ⟨a, xs, rfl, h1, _⟩ := o.list
    exact .base (.lst h1)
  | tuple ds =>
    cases e
    obtain ⟨a, xs, rfl, h1, _⟩ := o.tuple
    rcases h1 with (h | ⟨ob, h⟩) | ⟨ob, its, m, h, c, _⟩
    · exact .base (.tup h)
    · exact .fTuple h
    · exact .kTuple h c
  | dict _ => cases e
theorem isi_kit {T : TyN} {d : D} {b : Bool} (e : isiD T d = some b) : ∃ n, tyOf d = some n ∧ kitB n T.name = some b := by
  cases T <;> cases d <;> first
    | (cases e; done)
    | (cases e; exact ⟨_, rfl, by decide +kernel⟩)
def mIsi (T : TyN) (m : M SV) : M SV := mOp1 (fun x => bvD (isiD T x)) m
theorem je_isi (T : TyN) {e : Expr} {m : M SV} {p p2 pos : Pos} (hK : X.K = G.K) (he : PE X e (tE G m)) {x : Str} (hx : x = Str.ofString T.name) (hg : Gl X "isinstance") (hm : X.mg "isinstance" = none) (hg2 : Gl X x) (hm2 : X.mg x = none) (hv2 : bootBuiltins x = some (.type T.name))
    (hn : x ≠ "__name__" := by decide) (hdb : (x == ("__debug__" : Str)) = false := by decide)
    (hs : starEach [e, .Name x p2] X.env = (false, eval e X.env) :: starEach [.Name x p2] X.env := by rfl) (hs2 : starEach [.Name x p2] X.env = (false, eval (.Name x p2) X.env) :: starEach [] X.env := by rfl)
    (hpl : (backTo pos (starEach [.Name x p2] X.env)).any (·.1) = false := by rfl) :
    PE X (.Call (.Name "isinstance" p) [e, .Name x p2] [] pos) (tE G (mIsi T m)) := by
  refine (pe_callB call_isi hg hm (by decide +kernel) (pa_cons (je_frz he) (pa_cons (pe_bltn (v := .ty T.name) hg2 hm2 hv2 rfl hn hdb) pa_nil hs2) hs) (by decide) (by decide) hs hpl).imp fun σ H Q h => ?_
  refine op1_imp (r := fun x H1 Q => rIsi X.K [x, .ty T.name] H1 Q) (fun σ H L en x dx Q R o q => ?_) σ H Q h
  unfold bvD at q
  cases e1 : isiD T dx with
  | none => rw [e1] at q; exact q.elim
  | some b =>
    rw [e1] at q
    obtain ⟨n, h1, h2⟩ := isi_kit e1
    rw [hK]
    exact ⟨x, _, _, _, b, rfl, .ty _, tyX_of o h1, kit_ty h2, post_d R (.bl _) q⟩
end
end L2

namespace L2
open PySem PySem.Spec PyProof.Rows

/-! ### what a slot is given -/
section
variable {G : Gs} {H H' : Hp} {L : List Addr} {σ : St} {en : En} {v : V} {d : D} {i : Nat}
theorem RelS.store_d (R : RelS G L σ H en) (h : Dq G.K (hid H L) v d) : RelS G L (σ.set i (some v)) H (en.set i (some (.d d))) where
  own := R.own
  same := R.same
  len := by rw [List.length_set, List.length_set]; exact R.len
  slot := fun j sv e => by
    by_cases hj : j = i
    · subst hj
      by_cases hl : j < en.length
      · rw [List.getElem?_set_self hl] at e
        cases e
        refine ⟨v, ?_, h⟩
        rw [List.getElem?_set_self (by rw [R.len]; exact hl)]
      · rw [List.getElem?_eq_none (by rw [List.length_set]; omega)] at e
        cases e
    · rw [List.getElem?_set_ne (Ne.symm hj)] at e
      rw [List.getElem?_set_ne (Ne.symm hj)]
      exact R.slot j sv e
  apart := fun j k b c a hjk ej ek sj sk => by
    have key : ∀ (j : Nat) (b : OB), (en.set i (some (.d d)))[j]? = some (some (SV.own b)) → j ≠ i ∧ en[j]? = some (some (SV.own b)) := fun j b q => by
      by_cases hj : j = i
      · subst hj
        by_cases hl : j < en.length
        · rw [List.getElem?_set_self hl] at q
          cases q
        · rw [List.getElem?_eq_none (by rw [List.length_set]; omega)] at q
          cases q
      · rw [List.getElem?_set_ne (Ne.symm hj)] at q
        exact ⟨hj, q⟩
    obtain ⟨n1, e1⟩ := key _ _ ej
    obtain ⟨n2, e2⟩ := key _ _ ek
    rw [List.getElem?_set_ne (Ne.symm n1)] at sj
    rw [List.getElem?_set_ne (Ne.symm n2)] at sk
    exact R.apart j k b c a hjk e1 e2 sj sk
  base := fun b m => by
    obtain ⟨h1, h2, h3⟩ := R.base b m
    refine ⟨h1, h2, fun j c q => ?_⟩
    by_cases hj : j = i
    · subst hj
      by_cases hl : j < en.length
      · rw [List.getElem?_set_self hl] at q
        cases q
      · rw [List.getElem?_eq_none (by rw [List.length_set]; omega)] at q
        cases q
    · rw [List.getElem?_set_ne (Ne.symm hj)] at q
      rw [List.getElem?_set_ne (Ne.symm hj)]
      exact h3 j c q
theorem RelS.store_own {a : Addr} {o : HO} {b : OB} (R : RelS G L σ H en) (m : a ∈ L) (nb : a ∉ G.B) (ho : H a = some o) (h : ObR G.K (hid H L) o b) (n : ∀ (i : Nat) (c : OB), en[i]? = some (some (SV.own c)) → σ[i]? ≠ some (some (V.ref a))) :
    RelS G L (σ.set i (some (.ref a))) H (en.set i (some (.own b))) where
  own := R.own
  same := R.same
  len := by rw [List.length_set, List.length_set]; exact R.len
  slot := fun j sv e => by
    by_cases hj : j = i
    · subst hj
      by_cases hl : j < en.length
      · rw [List.getElem?_set_self hl] at e
        cases e
        refine ⟨a, o, ?_, m, ho, h⟩
        rw [List.getElem?_set_self (by rw [R.len]; exact hl)]
      · rw [List.getElem?_eq_none (by rw [List.length_set]; omega)] at e
        cases e
    · rw [List.getElem?_set_ne (Ne.symm hj)] at e
      rw [List.getElem?_set_ne (Ne.symm hj)]
      exact R.slot j sv e
  apart := fun j k b1 c a1 hjk ej ek sj sk => by
    have key : ∀ (j : Nat) (c : OB), (en.set i (some (.own b)))[j]? = some (some (SV.own c)) → (j = i ∧ j < en.length) ∨ (j ≠ i ∧ en[j]? = some (some (SV.own c))) := fun j c q => by
      by_cases hj : j = i
      · subst hj
        by_cases hl : j < en.length
        · exact .inl ⟨rfl, hl⟩
        · rw [List.getElem?_eq_none (by rw [List.length_set]; omega)] at q
          cases q
      · rw [List.getElem?_set_ne (Ne.symm hj)] at q
        exact .inr ⟨hj, q⟩
    rcases key _ _ ej with ⟨rfl, l1⟩ | ⟨n1, e1⟩
    · rw [List.getElem?_set_self (by rw [R.len]; exact l1)] at sj
      cases sj
      rcases key _ _ ek with ⟨e, _⟩ | ⟨n2, e2⟩
      · exact hjk e.symm
      · rw [List.getElem?_set_ne (Ne.symm n2)] at sk
        exact n k c e2 sk
    · rw [List.getElem?_set_ne (Ne.symm n1)] at sj
      rcases key _ _ ek with ⟨rfl, l2⟩ | ⟨n2, e2⟩
      · rw [List.getElem?_set_self (by rw [R.len]; exact l2)] at sk
        cases sk
        exact n j b1 e1 sj
      · rw [List.getElem?_set_ne (Ne.symm n2)] at sk
        exact R.apart j k b1 c a1 hjk e1 e2 sj sk
  base := fun c m => by
    obtain ⟨h1, h2, h3⟩ := R.base c m
    refine ⟨h1, h2, fun j u q => ?_⟩
    by_cases hj : j = i
    · subst hj
      by_cases hl : j < en.length
      · rw [List.getElem?_set_self (by rw [R.len]; exact hl)]
        exact fun z => nb (by cases z; exact m)
      · rw [List.getElem?_eq_none (by rw [List.length_set]; omega)] at q
        cases q
    · rw [List.getElem?_set_ne (Ne.symm hj)] at q
      rw [List.getElem?_set_ne (Ne.symm hj)]
      exact h3 j u q
/-- nothing is told of a slot any more -/
theorem RelS.forget (R : RelS G L σ H en) {w : Option V} : RelS G L (σ.set i w) H (en.set i none) where
  own := R.own
  same := R.same
  len := by rw [List.length_set, List.length_set]; exact R.len
  slot := fun j sv e => by
    by_cases hj : j = i
    · subst hj
      by_cases hl : j < en.length
      · rw [List.getElem?_set_self hl] at e
        cases e
      · rw [List.getElem?_eq_none (by rw [List.length_set]; omega)] at e
        cases e
    · rw [List.getElem?_set_ne (Ne.symm hj)] at e
      rw [List.getElem?_set_ne (Ne.symm hj)]
      exact R.slot j sv e
  apart := fun j k b c a hjk ej ek sj sk => by
    have key : ∀ (j : Nat) (b : OB), (en.set i none)[j]? = some (some (SV.own b)) → j ≠ i ∧ en[j]? = some (some (SV.own b)) := fun j b q => by
      by_cases hj : j = i
      · subst hj
        by_cases hl : j < en.length
        · rw [List.getElem?_set_self hl] at q
          cases q
        · rw [List.getElem?_eq_none (by rw [List.length_set]; omega)] at q
          cases q
      · rw [List.getElem?_set_ne (Ne.symm hj)] at q
        exact ⟨hj, q⟩
    obtain ⟨n1, e1⟩ := key _ _ ej
    obtain ⟨n2, e2⟩ := key _ _ ek
    rw [List.getElem?_set_ne (Ne.symm n1)] at sj
    rw [List.getElem?_set_ne (Ne.symm n2)] at sk
    exact R.apart j k b c a hjk e1 e2 sj sk
  base := fun b m => by
    obtain ⟨h1, h2, h3⟩ := R.base b m
    refine ⟨h1, h2, fun j c q => ?_⟩
    by_cases hj : j = i
    · subst hj
      by_cases hl : j < en.length
      · rw [List.getElem?_set_self hl] at q
        cases q
      · rw [List.getElem?_eq_none (by rw [List.length_set]; omega)] at q
        cases q
    · rw [List.getElem?_set_ne (Ne.symm hj)] at q
      rw [List.getElem?_set_ne (Ne.symm hj)]
      exact h3 j c q
/-- a slot's own object is changed -/
theorem RelS.put {a : Addr} {o' : HO} {b b' : OB} (R : RelS G L σ H en) (e : en[i]? = some (some (SV.own b))) (e1 : σ[i]? = some (some (V.ref a))) (m : a ∈ L) (h : ObR G.K (hid H L) o' b') :
    RelS G L σ (upd H a o') (en.set i (some (.own b'))) where
  own := fun c mc => by
    by_cases hc : c = a
    · subst hc
      rw [upd_same]
      rcases h.owns with ⟨xs, rfl⟩ | ⟨kvs, rfl⟩
      · exact .inl ⟨xs, rfl⟩
      · exact .inr ⟨kvs, rfl⟩
    · rw [upd_ne hc]
      exact R.own c mc
  same := by rw [hid_upd m]; exact R.same
  len := by rw [List.length_set]; exact R.len
  slot := fun j sv ej => by
    by_cases hj : j = i
    · subst hj
      rw [List.getElem?_set_self (List.getElem?_eq_some_iff.mp e).1] at ej
      cases ej
      exact ⟨a, o', e1, m, upd_same, by rw [hid_upd m]; exact h⟩
    · rw [List.getElem?_set_ne (Ne.symm hj)] at ej
      have z := R.slot j sv ej
      cases sv with
      | d dd => obtain ⟨v, q1, q2⟩ := z; exact ⟨v, q1, by rw [hid_upd m]; exact q2⟩
      | own c =>
        obtain ⟨a2, u, q1, m2, q2, q3⟩ := z
        have hne : a2 ≠ a := fun z => by
          subst z
          exact R.apart j i _ _ _ hj ej e q1 e1
        exact ⟨a2, u, q1, m2, by rw [upd_ne hne]; exact q2, by rw [hid_upd m]; exact q3⟩
      | bor _ => exact z
  apart := fun j k b1 c a1 hjk ej ek => by
    have key : ∀ (j : Nat) (c : OB), (en.set i (some (.own b')))[j]? = some (some (SV.own c)) → ∃ c', en[j]? = some (some (SV.own c')) := fun j c q => by
      by_cases hj : j = i
      · subst hj
        exact ⟨b, e⟩
      · rw [List.getElem?_set_ne (Ne.symm hj)] at q
        exact ⟨c, q⟩
    obtain ⟨b2, e2⟩ := key _ _ ej
    obtain ⟨c2, e3⟩ := key _ _ ek
    exact R.apart j k b2 c2 a1 hjk e2 e3
  base := fun c mc => by
    obtain ⟨h1, h2, h3⟩ := R.base c mc
    have hc : c ≠ a := fun z => h3 i _ e (by rw [z]; exact e1)
    refine ⟨h1, by rw [upd_ne hc]; exact h2, fun j u q => ?_⟩
    by_cases hj : j = i
    · subst hj
      exact h3 j _ e
    · rw [List.getElem?_set_ne (Ne.symm hj)] at q
      exact h3 j u q
theorem RV.at_own {b : OB} {a : Addr} {o : HO} (R : RelS G L σ H en) (e : en[i]? = some (some (SV.own b))) (e1 : σ[i]? = some (some (V.ref a))) : a ∈ L ∧ ∃ o, H a = some o ∧ ObR G.K (hid H L) o b := by
  obtain ⟨c, u, q1, m, q2, q3⟩ := R.slot i _ e
  rw [e1] at q1
  cases q1
  exact ⟨m, u, q2, q3⟩
end

/-! ### statements -/
def mSeq (m n : M Ct) : M Ct := mbind m fun c => match c with
  | .nx => n
  | c => mpure c
def mNx : M Ct := mpure .nx
/-- a value goes into slot i -/
def mSet (i : Nat) (m : M SV) : M Ct := mbind m fun sv => match sv with
  | .d d => fun en => .ok .nx (en.set i (some (.d d)))
  | .own o => fun en => .ok .nx (en.set i (some (.own o)))
  | .bor _ => mstuck
def mRet (m : M SV) : M Ct := mbind m fun sv => mpure (.rt sv)
def mIfS (t : M Bool) (m n : M Ct) : M Ct := mbind t fun b => if b then m else n
section
variable {X : Cx} {G : Gs} {st : Stmt} {rest : List Stmt} {e : Expr} {m n : M Ct} {me : M SV} {pos : Pos} {H : Hp} {L : List Addr} {σ : St} {en : En} {E : Ends} {wr w1 w2 : List Nat}
theorem js_nil : PSs X [] (tS G [] mNx) := pss_nil.imp fun E σ H h => by
  obtain ⟨en, L, R, q⟩ := h
  exact q σ H L R (Same.refl _) Keeps.refl
theorem js_less {w1 w2 : List Nat} (h : PSs X rest (tS G w1 m)) (l : ∀ j ∈ w1, j ∈ w2) : PSs X rest (tS G w2 m) := h.imp fun E σ H h => by
  obtain ⟨en, L, R, q⟩ := h
  exact ⟨en, L, R, q.less l⟩
theorem seq_imp (E : Ends) (σ : St) (H : Hp) (h : tS G (w1 ++ w2) (mSeq m n) E σ H) : tSeq (tS G w1 m) (tS G w2 n) E σ H := by
  obtain ⟨en, L, R, q⟩ := h
  refine ⟨en, L, R, ?_⟩
  unfold mSeq mbind at q
  cases e : m en with
  | stuck => rw [e] at q; exact q
  | exc x en' => rw [e] at q; exact PostX.imp q fun σ' k => k.mono fun j z => List.mem_append_left _ z
  | ok c en' =>
    rw [e] at q
    cases c with
    | nx => exact fun σ1 H1 L1 R1 s1 k1 => ⟨en', L1, R1, q.from s1 k1⟩
    | rt sv => exact q
    | bk => exact fun σ1 H1 L1 R1 s1 k1 => q σ1 H1 L1 R1 s1 (k1.mono fun j z => List.mem_append_left _ z)
    | ct => exact fun σ1 H1 L1 R1 s1 k1 => q σ1 H1 L1 R1 s1 (k1.mono fun j z => List.mem_append_left _ z)
theorem js_cons (h1 : PS X st (tS G w1 m)) (h2 : PSs X rest (tS G w2 n)) : PSs X (st :: rest) (tS G (w1 ++ w2) (mSeq m n)) := (pss_cons h1 h2).imp seq_imp
theorem js_one (h1 : PS X st (tS G wr m)) : PSs X [st] (tS G wr m) := pss_one h1
/-- an expression, then an end -/
theorem seqES {f : SV → M Ct} (R : RelS G L σ H en) (q : PostS G wr σ H L (mbind me f en) E) :
    tE G me σ H fun x H1 => ∃ en1 L1 sv, RelS G L1 σ H1 en1 ∧ Same (hid H L) (hid H1 L1) ∧ RV G L1 σ H1 en1 x sv ∧ PostS G wr σ H1 L1 (f sv en1) E := by
  refine ⟨en, L, R, ?_⟩
  unfold mbind at q
  cases e : me en with
  | ok sv en' =>
    rw [e] at q
    exact fun v H' L' a b c => ⟨en', L', sv, a, b, c, q.from0 b⟩
  | exc x en' =>
    rw [e] at q
    exact PostX.at q
  | stuck =>
    rw [e] at q
    exact q
theorem seqTS {t : M Bool} {f : Bool → M Ct} (R : RelS G L σ H en) (q : PostS G wr σ H L (mbind t f en) E) :
    tT G t σ H fun x H1 => ∃ en1 L1, RelS G L1 σ H1 en1 ∧ Same (hid H L) (hid H1 L1) ∧ PostS G wr σ H1 L1 (f x en1) E := by
  refine ⟨en, L, R, ?_⟩
  unfold mbind at q
  cases e : t en with
  | ok sv en' =>
    rw [e] at q
    exact fun H' L' a b => ⟨en', L', a, b, q.from0 b⟩
  | exc x en' =>
    rw [e] at q
    exact PostX.at q
  | stuck =>
    rw [e] at q
    exact q
/-- what a target does with a value -/
theorem set_imp {i : Nat} (E : Ends) (σ : St) (H : Hp) (h : tS G [i] (mSet i me) E σ H) : tAsg (tE G me) (gName i) E σ H := by
  obtain ⟨en, L, R, q⟩ := h
  refine (seqES R q).mono fun v H1 ⟨en1, L1, sv, R1, s1, r1, q1⟩ => ?_
  cases sv with
  | d d => exact q1 _ H1 L1 (R1.store_d r1) (Same.refl _) Keeps.set
  | own o =>
    obtain ⟨a, ho, rfl, m, nb, h1, h2, h3⟩ := r1
    exact q1 _ H1 L1 (R1.store_own m nb h1 h2 h3) (Same.refl _) Keeps.set
  | bor _ => exact q1.elim
theorem js_set (i : Nat) {x : Str} {pos' : Pos} (hN : X.N.Nodup) (hi : X.N[i]? = some x) (hx : Loc X.env.scope x) (he : PE X e (tE G me)) (hs : swapsWith e (some (.Name x pos')) pos.line X.env = pure false := by rfl) (hf : X.fn x = true ∨ X.env.scope.names.lookup x = some .local := by first | exact .inl rfl | exact .inr rfl | assumption) :
    PS X (.Assign [.Name x pos'] e pos) (tS G [i] (mSet i me)) := (ps_set hN hi hx he hs hf).imp set_imp
theorem js_ret (he : PE X e (tE G me)) : PS X (.Return (some e) pos) (tS G [] (mRet me)) := (ps_ret he).imp fun E σ H h => by
  obtain ⟨en, L, R, q⟩ := h
  exact (seqES R q).mono fun v H1 ⟨en1, L1, sv, R1, s1, r1, q1⟩ => q1 v σ H1 L1 R1 (Same.refl _) r1
theorem js_if {c : Expr} {a b : List Stmt} {t : M Bool} (hc : PT X c (tT G t)) (ha : PSs X a (tS G w1 m)) (hb : PSs X b (tS G w2 n)) : PS X (.If c a b pos) (tS G (w1 ++ w2) (mIfS t m n)) := (ps_if hc ha hb).imp fun E σ H h => by
  obtain ⟨en, L, R, q⟩ := h
  refine (seqTS R q).mono fun b H1 ⟨en1, L1, R1, s1, q1⟩ => ?_
  cases b with
  | true => exact ⟨en1, L1, R1, q1.less fun j z => List.mem_append_left _ z⟩
  | false => exact ⟨en1, L1, R1, q1.less fun j z => List.mem_append_right _ z⟩
theorem js_pass : PS X (.Pass pos) (tS G [] mNx) := ps_pass.imp fun E σ H h => by
  obtain ⟨en, L, R, q⟩ := h
  exact q σ H L R (Same.refl _) Keeps.refl
theorem js_break : PS X (.Break pos) (tS G [] (mpure .bk)) := ps_break.imp fun E σ H h => by
  obtain ⟨en, L, R, q⟩ := h
  exact q σ H L R (Same.refl _) Keeps.refl
theorem js_continue : PS X (.Continue pos) (tS G [] (mpure .ct)) := ps_continue.imp fun E σ H h => by
  obtain ⟨en, L, R, q⟩ := h
  exact q σ H L R (Same.refl _) Keeps.refl
/-! ### a list's methods, at a slot's own list -/
/-- slot i's own list is changed by f, out of the argument -/
def mMut (i : Nat) (f : List D → D → Option (List D)) (me : M SV) : M Ct := fun en => match en[i]? with
  | some (some (.own (.lst _))) => mbind (mkeep me) (fun sv en => match sv, en[i]? with
    | .d d, some (some (.own (.lst ds))) => (match f ds d with
      | some es => .ok .nx (en.set i (some (.own (.lst es))))
      | none => .stuck)
    | _, _ => .stuck) en
  | _ => .stuck
theorem slot_lst {i : Nat} {ds : List D} (R : RelS G L σ H en) (e : en[i]? = some (some (SV.own (.lst ds)))) : ∃ (a : Addr) (xs : List V), σ[i]? = some (some (V.ref a)) ∧ a ∈ L ∧ H a = some (.lst xs) ∧ DqAll G.K (hid H L) xs ds := by
  obtain ⟨a, o, e1, m, ho, hr⟩ := R.slot i _ e
  cases o with
  | lst xs => exact ⟨a, xs, e1, m, ho, hr⟩
  | _ => exact hr.elim
theorem js_mut {i : Nat} {f : List D → D → Option (List D)} {r : V → List V → Hp → VK → Prop} {t : Expr}
    (hp : PE X t (tBM X.K "list" r (tVar i) (tCons (tE G (mkeep me)) tNil))) (hs : swapsWith t none pos.line X.env = pure false)
    (k : ∀ (H : Hp) (L : List Addr) (a : Addr) (xs : List V) (ds es : List D) (y : V) (d : D) (Q : VK), a ∈ L → Owns H L → H a = some (.lst xs) → DqAll G.K (hid H L) xs ds → Dq G.K (hid H L) y d → f ds d = some es →
      (∀ v ys, DqAll G.K (hid H L) ys es → Q v (upd H a (.lst ys))) → r (.ref a) [y] H Q) : PS X (.Expr t pos) (tS G [] (mMut i f me)) := (ps_expr hp hs).imp fun E σ H h => by
  obtain ⟨en, L, R, q⟩ := h
  unfold mMut at q
  split at q
  · rename_i ds0 e0
    obtain ⟨a, xs0, e1, m0, ho0, hr0⟩ := slot_lst R e0
    refine ⟨.ref a, e1, .inl ⟨rfl, xs0, .of ho0⟩, ?_⟩
    refine (seqES R q).mono fun y H1 ⟨en1, L1, sv, R1, s1, r1, q1⟩ => ?_
    split at q1
    · rename_i d ds e2
      obtain ⟨a', xs, e3, m, ho, hr⟩ := slot_lst R1 e2
      rw [e1] at e3
      cases e3
      cases hf : f ds d with
      | none => rw [hf] at q1; exact q1.elim
      | some es =>
        rw [hf] at q1
        refine k H1 L1 a xs ds es y d _ m R1.own ho hr r1 hf fun v ys hq => ?_
        exact q1 σ (upd H1 a (.lst ys)) L1 (R1.put e2 e1 m hq) (by rw [hid_upd m]; exact Same.refl _) Keeps.refl
    · exact q1.elim
  · exact q.elim
def fAppend : List D → D → Option (List D) := fun ds d => if ds.length < sizeLine then some (ds ++ [d]) else none
def fExtend : List D → D → Option (List D) := fun ds d => match d with
  | .list es => if ds.length + es.length ≤ sizeLine then some (ds ++ es) else none
  | _ => none
def mAppend (i : Nat) (me : M SV) : M Ct := mMut i fAppend me
def mExtend (i : Nat) (me : M SV) : M Ct := mMut i fExtend me
theorem js_append (i : Nat) {x : Str} {p apos cpos : Pos} (hK : X.K = G.K) (hN : X.N[i]? = some x) (hv : Vis X.env.scope x) (he : PE X e (tE G me)) (hd : (x == ("__debug__" : Str)) = false := by decide) (hcd : (x == ("__classdict__" : Str)) = false := by decide)
    (hbase : attributeBase (.Name x p) "append" X.env (eval (.Name x p) X.env) = eval (.Name x p) X.env := by rfl)
    (hfew : ((backTo cpos (starEach [e] X.env)).all (fun x => !x.1) && (backToKw cpos (keywordEach [] X.env)).all (fun x => x.1.isSome) && decide (([e] : List Expr).length + ([] : List Keyword).length + (if ([] : List Keyword).isEmpty then 0 else 1) < 30)) = true := by rfl)
    (hline : (apos.endLine == cpos.line) = true := by rfl) (hse : starEach [e] X.env = (false, eval e X.env) :: starEach [] X.env := by rfl)
    (hs : swapsWith (.Call (.Attribute (.Name x p) "append" apos) [e] [] cpos) none pos.line X.env = pure false := by rfl) :
    PS X (.Expr (.Call (.Attribute (.Name x p) "append" apos) [e] [] cpos) pos) (tS G [] (mAppend i me)) :=
  js_mut (pe_bm PySem.F.plainAttrs_list PySem.F.slot_list_append PySem.F.type_list_append mt_append (pe_var hN hv hd hcd) (pa_cons (je_keep he) pa_nil hse) hbase hfew hline hse) hs
    fun H L a xs ds es y d Q m w ho hr hy hf q => by
      unfold fAppend at hf
      split at hf
      · rename_i hl
        cases hf
        exact ⟨a, xs, y, rfl, rfl, ho, by rw [hr.length]; exact hl, q _ _ (hr.append (.cons hy .nil))⟩
      · cases hf
theorem js_extend (i : Nat) {x : Str} {p apos cpos : Pos} (hK : X.K = G.K) (hN : X.N[i]? = some x) (hv : Vis X.env.scope x) (he : PE X e (tE G me)) (hd : (x == ("__debug__" : Str)) = false := by decide) (hcd : (x == ("__classdict__" : Str)) = false := by decide)
    (hbase : attributeBase (.Name x p) "extend" X.env (eval (.Name x p) X.env) = eval (.Name x p) X.env := by rfl)
    (hfew : ((backTo cpos (starEach [e] X.env)).all (fun x => !x.1) && (backToKw cpos (keywordEach [] X.env)).all (fun x => x.1.isSome) && decide (([e] : List Expr).length + ([] : List Keyword).length + (if ([] : List Keyword).isEmpty then 0 else 1) < 30)) = true := by rfl)
    (hline : (apos.endLine == cpos.line) = true := by rfl) (hse : starEach [e] X.env = (false, eval e X.env) :: starEach [] X.env := by rfl)
    (hs : swapsWith (.Call (.Attribute (.Name x p) "extend" apos) [e] [] cpos) none pos.line X.env = pure false := by rfl) :
    PS X (.Expr (.Call (.Attribute (.Name x p) "extend" apos) [e] [] cpos) pos) (tS G [] (mExtend i me)) :=
  js_mut (pe_bm PySem.F.plainAttrs_list PySem.F.slot_list_extend PySem.F.type_list_extend mt_extend (pe_var hN hv hd hcd) (pa_cons (je_keep he) pa_nil hse) hbase hfew hline hse) hs
    fun H L a xs ds es y d Q m w ho hr hy hf q => by
      unfold fExtend at hf
      split at hf
      · rename_i es0
        split at hf
        · rename_i hl
          cases hf
          cases hy with
          | lst hs ha => exact ⟨a, _, xs, _, rfl, rfl, ho, hid_same _ _ hs, by rw [hr.length, ha.length]; exact hl, q _ _ (hr.append ha)⟩
        · cases hf
      · cases hf
/-- xs.pop() -/
def mPop (i : Nat) : M SV := fun en => match en[i]? with
  | some (some (.own (.lst ds))) => (match ds[ds.length - 1]? with
    | some d => .ok (.d d) (en.set i (some (.own (.lst ds.dropLast))))
    | none => .stuck)
  | _ => .stuck
theorem je_pop (i : Nat) {x : Str} {p apos cpos : Pos} (hN : X.N[i]? = some x) (hv : Vis X.env.scope x) (hd : (x == ("__debug__" : Str)) = false := by decide) (hcd : (x == ("__classdict__" : Str)) = false := by decide)
    (hbase : attributeBase (.Name x p) "pop" X.env (eval (.Name x p) X.env) = eval (.Name x p) X.env := by rfl) (hline : (apos.endLine == cpos.line) = true := by rfl) :
    PE X (.Call (.Attribute (.Name x p) "pop" apos) [] [] cpos) (tE G (mPop i)) :=
  (pe_bm0 PySem.F.plainAttrs_list PySem.F.slot_list_pop PySem.F.type_list_pop mt_pop (pe_var hN hv hd hcd) hbase hline).imp fun σ H Q h => by
    obtain ⟨en, L, R, q⟩ := h
    unfold mPop at q
    split at q
    · rename_i ds e0
      obtain ⟨a, xs, e1, m, ho, hr⟩ := slot_lst R e0
      split at q
      · rename_i d hd
        obtain ⟨v, e2, hv⟩ := hr.get hd
        refine ⟨.ref a, e1, .inl ⟨rfl, xs, .of ho⟩, a, xs, v, rfl, rfl, ho, by rw [hr.length]; exact e2, ?_⟩
        exact q v _ L (R.put e0 e1 m (b' := .lst ds.dropLast) (o' := .lst xs.dropLast) hr.dropLast) (by rw [hid_upd m]; exact Same.refl _) (by rw [show RV G L σ (upd H a (.lst xs.dropLast)) (en.set i (some (.own (.lst ds.dropLast)))) v (.d d) = Dq G.K (hid (upd H a (.lst xs.dropLast)) L) v d from rfl, hid_upd m]; exact hv)
      · exact q.elim
    · exact q.elim
end
end L2

namespace L2
open PySem PySem.Spec PyProof.Rows

theorem nil_sub {L : List Addr} : ∀ a ∈ ([] : List Addr), a ∈ L := fun a m => by cases m
/-! ### all slots' objects are let be seen -/
def frzSV : Option SV → Option SV
  | some (.own (.lst ds)) => some (.d (.list ds))
  | some (.own (.dct _)) => none
  | x => x
def frzAll (en : En) : En := en.map frzSV
section
variable {G : Gs} {H H' : Hp} {L : List Addr} {σ : St} {en : En}
theorem RelS.sub (R : RelS G L σ H en) : ∀ a ∈ G.B, a ∈ L := fun a m => (R.base a m).1
theorem frz_no {i : Nat} {c : OB} (h : (frzAll en)[i]? = some (some (SV.own c))) : False := by
  unfold frzAll at h
  rw [List.getElem?_map] at h
  cases q : en[i]? with
  | none => rw [q] at h; cases h
  | some o =>
    rw [q] at h
    cases o with
    | none => cases h
    | some s => cases s with
      | d d => cases h
      | bor _ => cases h
      | own b => cases b <;> cases h
theorem RelS.frzAll (R : RelS G L σ H en) : RelS G G.B σ H (L2.frzAll en) where
  own := fun a m => R.own a (R.sub a m)
  same := R.same.trans (hid_less R.sub)
  len := by unfold L2.frzAll; rw [List.length_map]; exact R.len
  slot := fun i sv e => by
    unfold L2.frzAll at e
    rw [List.getElem?_map] at e
    cases q : en[i]? with
    | none => rw [q] at e; cases e
    | some o =>
      rw [q] at e
      cases o with
      | none => cases e
      | some s =>
        have z := R.slot i s q
        cases s with
        | d d =>
          cases e
          obtain ⟨v, e1, h⟩ := z
          exact ⟨v, e1, Dq.mono (hid_less R.sub) _ h⟩
        | bor _ => cases e; exact z
        | own b =>
          cases b with
          | dct _ => cases e
          | lst ds =>
            cases e
            obtain ⟨a, o, e1, m, ho, hr⟩ := z
            cases o with
            | lst xs =>
              refine ⟨_, e1, .lst ?_ (DqAll.mono (hid_less R.sub) _ hr)⟩
              rw [hid_out fun z => (R.base a z).2.2 i _ q e1]
              exact ho
            | _ => exact hr.elim
  apart := fun i j b c a _ ei _ => (frz_no ei).elim
  base := fun b m => ⟨m, (R.base b m).2.1, fun i c e => (frz_no e).elim⟩
/-- a new object of a callee's is owned -/
theorem RelS.got (R : RelS G L σ H en) (s : Same H H') {a : Addr} {o : HO} (n : H a = none) (ho : H' a = some o) (w : (∃ xs, o = .lst xs) ∨ ∃ kvs, o = .dK kvs) : RelS G (a :: L) σ H' en ∧ Same (hid H L) (hid H' (a :: L)) := by
  have k : Same (hid H L) (hid H' (a :: L)) := fun b u e => by
    obtain ⟨m, e⟩ := hid_some e
    have hb : b ≠ a := ne_of_none e n
    rw [hid_out (by simp [hb, m])]
    exact s _ _ e
  refine ⟨⟨fun b m => ?_, R.same.trans k, R.len, fun i sv e => ?_, R.apart, fun b m => ?_⟩, k⟩
  · rcases List.mem_cons.mp m with rfl | m
    · rcases w with ⟨xs, rfl⟩ | ⟨kvs, rfl⟩
      · exact .inl ⟨xs, ho⟩
      · exact .inr ⟨kvs, ho⟩
    · exact (R.grow s).own b m
  · have q := R.slot i sv e
    cases sv with
    | d dd => obtain ⟨v, e1, h⟩ := q; exact ⟨v, e1, Dq.mono k _ h⟩
    | own b => obtain ⟨c, u, e1, m, hc, h⟩ := q; exact ⟨c, u, e1, List.mem_cons_of_mem _ m, s _ _ hc, h.mono k⟩
    | bor _ => exact q
  · obtain ⟨h1, h2, h3⟩ := (R.grow s).base b m
    exact ⟨List.mem_cons_of_mem _ h1, h2, h3⟩
end
/-! ### what a def gives back -/
abbrev Fm := List D → Rs SV
def flatO : OB → Bool
  | .lst ds => flats ds
  | .dct kvs => kvs.all fun p => flat p.2
def RetR (K : Kf) (B : List Addr) (H H' : Hp) (v : V) : SV → Prop
  | .d d => Dq K (hid H' B) v d
  | .own b => ∃ a o, v = .ref a ∧ H a = none ∧ H' a = some o ∧ ObR K (hid H' (a :: B)) o b
  | .bor _ => False
def spF (K : Kf) (mg : Str → Option Value) (n : Nat) (F : Fm) : Sp := fun vs H Q E => vs.length = n ∧ ∃ (B : List Addr) (ds : List D), Owns H B ∧ DqAll K (hid H B) vs ds ∧ match F ds with
  | .ok sv _ => ∀ v H', Same H H' → RetR K B H H' v sv → Q v H'
  | .exc x _ => ∀ cls d H', Same H H' → XR K mg x cls d (hid H' B) → E cls d H'
  | .stuck => False
def lookA (en : En) : SV → Option D
  | .d d => some d
  | .own _ => none
  | .bor i => match en[i]? with
    | some (some (.own (.lst ds))) => some (.list ds)
    | some (some (.own (.dct kds))) => if (kds.all fun p => isAt p.2) = true then some (dctD kds) else none
    | _ => none
def looksA (en : En) : List SV → Option (List D)
  | [] => some []
  | s :: r => match lookA en s, looksA en r with
    | some d, some ds => some (d :: ds)
    | _, _ => none
theorem RV.dq {G : Gs} {H : Hp} {L : List Addr} {σ : St} {en : En} {v : V} {sv : SV} {d : D} (R : RelS G L σ H en) (r : RV G L σ H en v sv) (e : lookA en sv = some d) : Dq G.K (hid H G.B) v d := by
  cases sv with
  | d dd => cases e; exact Dq.mono (hid_less R.sub) _ r
  | own _ => cases e
  | bor i =>
    obtain ⟨e1, b, e2⟩ := r
    unfold lookA at e
    simp only [e2] at e
    cases b with
    | dct kds =>
      dsimp only at e
      split at e
      · rename_i hf
        cases e
        have z := R.slot i _ e2
        obtain ⟨a, o, e3, m, ho, hr⟩ := z
        rw [e1] at e3
        cases e3
        cases o with
        | dK kvs =>
          refine .dct ?_ (KD.ka hr hf)
          rw [hid_out fun z => (R.base a z).2.2 i _ e2 e1]
          exact ho
        | _ => exact hr.elim
      · cases e
    | lst ds =>
      cases e
      obtain ⟨a, xs, e3, m, ho, hr⟩ := slot_lst R e2
      rw [e1] at e3
      cases e3
      refine .lst ?_ (DqAll.mono (hid_less R.sub) _ hr)
      rw [hid_out fun z => (R.base a z).2.2 i _ e2 e1]
      exact ho
theorem RVs.dq {G : Gs} {H : Hp} {L : List Addr} {σ : St} {en : En} (R : RelS G L σ H en) : ∀ {vs : List V} {svs : List SV} {ds : List D}, RVs G L σ H en vs svs → looksA en svs = some ds → DqAll G.K (hid H G.B) vs ds
  | _, _, _, .nil, e => by cases e; exact .nil
  | _, _, _, .cons h t, e => by
    unfold looksA at e
    split at e
    · rename_i d ds e1 e2
      cases e
      exact .cons (RV.dq R h.1 e1) (RVs.dq R t e2)
    · cases e
theorem looksA_len {en : En} : ∀ {svs : List SV} {ds : List D}, looksA en svs = some ds → svs.length = ds.length
  | [], _, e => by cases e; rfl
  | s :: r, _, e => by
    unfold looksA at e
    split at e
    · rename_i d ds e1 e2
      cases e
      exact congrArg (· + 1) (looksA_len e2)
    · cases e
def mCall (F : Fm) (mas : M (List SV)) : M SV := mbind mas fun svs en => match looksA en svs with
  | some ds => (match F ds with
    | .ok (.d d) _ => if flat d then .ok (.d d) en else .ok (.d d) (frzAll en)
    | .ok (.own o) _ => if flatO o then .ok (.own o) en else .ok (.own o) (frzAll en)
    | .ok (.bor _) _ => .stuck
    | .exc x _ => .exc x (frzAll en)
    | .stuck => .stuck)
  | none => .stuck
theorem ObR.flat_hid {K : Kf} {H : Hp} {L : List Addr} (w : Owns H L) {o : HO} {b : OB} (f : flatO b = true) (h : ObR K H o b) : ObR K (hid H L) o b := by
  cases o with
  | lst xs => cases b with
    | lst ds => exact DqAll.flat_hid w _ f h
    | dct _ => exact h.elim
  | dK kvs => cases b with
    | lst ds => exact h.elim
    | dct ks =>
      have go : ∀ {a : List (Key × V)} {c : List (Key × D)}, KD K H a c → (c.all fun p => flat p.2) = true → KD K (hid H L) a c := by
        intro a c h
        induction h with
        | nil => intro _; exact .nil
        | cons r _ ih =>
          intro f
          simp only [List.all_cons, Bool.and_eq_true] at f
          exact .cons ⟨r.1, Dq.flat_hid w _ f.1 r.2⟩ (ih f.2)
      exact go h f
  | _ => exact h.elim
section
variable {X : Cx} {G : Gs} {mas : M (List SV)} {F : Fm}
theorem call_imp {n : Nat} (hn : ∀ en svs en', mas en = .ok svs en' → svs.length = n) (σ : St) (H : Hp) (Q : VK) (h : tE G (mCall F mas) σ H Q) :
    tCallS (spF G.K G.mg n F) (WE G.W) (tA G mas) σ H Q := by
  obtain ⟨en, L, R, q⟩ := h
  refine ⟨en, L, R, ?_⟩
  unfold mCall mbind at q
  cases e0 : mas en with
  | stuck => rw [e0] at q; exact q
  | exc x en' => rw [e0] at q; exact q
  | ok svs en1 =>
    rw [e0] at q
    intro vs H1 L1 R1 s1 r1
    have hlen := hn en svs en1 e0
    have q1 := q.from s1
    dsimp only at q1
    cases e : looksA en1 svs with
    | none => rw [e] at q1; exact q1.elim
    | some ds =>
      rw [e] at q1
      dsimp only at q1
      have hd := RVs.dq R1 r1 e
      have hB : Owns H1 G.B := fun b m => R1.own b (R1.sub b m)
      refine ⟨by rw [← hlen]; exact Paired.length r1, G.B, ds, hB, hd, ?_⟩
      have lb : Same (hid H1 L1) (hid H1 G.B) := hid_less R1.sub
      cases e1 : F ds with
      | stuck => rw [e1] at q1; exact q1.elim
      | exc x en' =>
        rw [e1] at q1
        exact fun cls d H2 s2 hx => q1 cls d σ H2 G.B rfl (R1.grow s2).frzAll (lb.trans (hid_mono s2)) hx
      | ok sv en' =>
        rw [e1] at q1
        cases sv with
        | bor _ => exact q1.elim
        | d d =>
          intro v H2 s2 hr
          dsimp only at q1
          split at q1
          · rename_i hf
            exact q1 v H2 L1 (R1.grow s2) (hid_mono s2) (Dq.flat_hid (R1.grow s2).own _ hf (Dq.mono hid_same _ hr))
          · exact q1 v H2 G.B (R1.grow s2).frzAll (lb.trans (hid_mono s2)) hr
        | own o =>
          intro v H2 s2 hr
          obtain ⟨a, ho, rfl, na, ha, hob⟩ := hr
          dsimp only at q1
          split at q1
          · rename_i hf
            obtain ⟨R2, k2⟩ := R1.got s2 na ha hob.owns
            exact q1 _ H2 (a :: L1) R2 k2 ⟨a, ho, rfl, List.mem_cons_self, R1.fresh_base na, ha, ObR.flat_hid R2.own hf (hob.mono hid_same), own_out R1 (R1.fresh_out na)⟩
          · have R0 := R1.frzAll
            obtain ⟨R2, k2⟩ := R0.got s2 na ha hob.owns
            exact q1 _ H2 (a :: G.B) R2 (lb.trans k2) ⟨a, ho, rfl, List.mem_cons_self, R1.fresh_base na, ha, hob, own_out R0 (R1.fresh_base na)⟩
end
/-! ### a def by its body -/
def runF (n N : Nat) (body : M Ct) : Fm := fun ds => if ds.length = n then (match body (ds.map (fun d => some (SV.d d)) ++ List.replicate (N - n) none) with
  | .ok (.rt (.d d)) _ => .ok (.d d) []
  | .ok (.rt (.own o)) _ => .ok (.own o) []
  | .ok (.rt (.bor i)) en => (match en[i]? with
    | some (some (.own o)) => .ok (.own o) []
    | _ => .stuck)
  | .ok .nx _ => .ok (.d .none) []
  | .exc x _ => .exc x []
  | _ => .stuck) else .stuck
section
variable {P : Program} {w : World} {K : Kf} {mg : Str → Option Value} {base : Heap}
theorem start_rel {W : WX} {B : List Addr} {H : Hp} {N : List Str} {vs : List V} {ds : List D} (w : Owns H B) (h : DqAll K (hid H B) vs ds) : RelS ⟨K, mg, hid H B, W, B, H, none⟩ B (start N vs) H (ds.map (fun d => some (SV.d d)) ++ List.replicate (N.length - ds.length) none) := by
  have no : ∀ (i : Nat) (c : OB), (ds.map (fun d => some (SV.d d)) ++ List.replicate (N.length - ds.length) none)[i]? = some (some (SV.own c)) → False := fun i c ei => by
    by_cases hi : i < ds.length
    · rw [List.getElem?_append_left (by rw [List.length_map]; exact hi), List.getElem?_map] at ei
      cases q : ds[i]? with
      | none => rw [q] at ei; cases ei
      | some d => rw [q] at ei; cases ei
    · rw [List.getElem?_append_right (by rw [List.length_map]; omega)] at ei
      rw [List.getElem?_replicate] at ei
      split at ei <;> cases ei
  refine ⟨w, Same.refl _, ?_, fun i sv e => ?_, fun i j b c a _ ei _ => (no i b ei).elim, fun a m => ⟨m, rfl, fun i c e => (no i c e).elim⟩⟩
  · unfold start
    rw [List.length_append, List.length_append, List.length_map, List.length_map, List.length_replicate, List.length_replicate, h.length]
  · by_cases hi : i < ds.length
    · rw [List.getElem?_append_left (by rw [List.length_map]; exact hi), List.getElem?_map] at e
      cases q : ds[i]? with
      | none => rw [q] at e; cases e
      | some d =>
        rw [q] at e
        cases e
        obtain ⟨v, e1, e2⟩ := h.get q
        refine ⟨v, ?_, e2⟩
        unfold start
        rw [List.getElem?_append_left (by rw [List.length_map, h.length]; exact hi), List.getElem?_map, e1]
        rfl
    · rw [List.getElem?_append_right (by rw [List.length_map]; omega)] at e
      rw [List.getElem?_replicate] at e
      split at e <;> cases e
/-- what a body leaves of what was there -/
theorem RelS.kept {W : WX} {B : List Addr} {H H' : Hp} {L : List Addr} {σ : St} {en : En} (R : RelS ⟨K, mg, hid H B, W, B, H, none⟩ L σ H' en) : Same H H' := fun a o e => by
  by_cases m : a ∈ B
  · rw [(R.base a m).2.1]
    exact e
  · exact hid_same _ _ (R.same a o (show hid H B a = some o by rw [hid_out m]; exact e))
theorem okN {x qual : Str} {st : Stmt} {f : Addr} {fd : FuncData} {N ps : List Str} {k : Nat} {sp : Sp} (F : Fun K x qual st f fd) (S : FnScope N ps (defScope st)) (len : ∀ vs H Q E, sp vs H Q E → vs.length = ps.length)
    (body : ∀ (cdv : Value) (A : Around) (outer : List Env) (s : Shared) (H : Hp) (vs : List V) (Q : VK) (E : XK), Room k (A.deeper (envOfC qual (defScope st) s.heap.objs.size f cdv)) → sp vs H Q E →
      ∃ t, PSs (cxOf (L2N.CX P w) P w K mg base N qual (defScope st) f cdv A outer s H E) (defBody st) t ∧ t { nx := fun _ H' => Q .non H', rt := Q } (start N vs) H) :
    FnOk P w K mg base (L2N.CX P w) (k + 1) f fd ps sp := by
  obtain ⟨oc, od, kV, doc, pm, an, cdv, ct, osl, rfl, lk, hcd⟩ := F.ex
  exact fn_of lk hcd S len fun A outer s H vs Q E hr h => body cdv A outer s H vs Q E hr h
theorem mir_run {wr : List Nat} {N ps : List Str} {m : M Ct} {H : Hp} {vs : List V} {Q : VK} {E : XK} (h : spF K mg ps.length (runF ps.length N.length m) vs H Q E) :
    ∃ B, tS ⟨K, mg, hid H B, fun cls d _ H' => E cls d H', B, H, none⟩ wr m { nx := fun _ H' => Q .non H', rt := Q } (start N vs) H := by
  obtain ⟨hl, B, ds, hw, hd, h⟩ := h
  refine ⟨B, ?_⟩
  have hdl : ds.length = ps.length := by rw [← hd.length]; exact hl
  unfold runF at h
  rw [if_pos hdl] at h
  refine ⟨_, B, start_rel (N := N) hw hd, ?_⟩
  rw [hdl]
  cases e : m (ds.map (fun d => some (SV.d d)) ++ List.replicate (N.length - ps.length) none) with
  | stuck => rw [e] at h; exact h
  | exc x en' =>
    rw [e] at h
    exact fun cls d σ' H' L' _ R' s' hx => h cls d H' R'.kept (by
      obtain ⟨C, dd, fv, a1, a2, a3, a4, a5⟩ := hx
      exact ⟨C, dd, fv, a1, a2, a3, hid_less R'.sub _ _ a4, Paired.mapP a5 fun _ _ ⟨z1, z2⟩ => ⟨z1, Dq.mono (hid_less R'.sub) _ z2⟩⟩)
  | ok c en' =>
    rw [e] at h
    cases c with
    | nx => exact fun σ' H' L' R' s' _ => h .non H' R'.kept .non
    | bk => exact h.elim
    | ct => exact h.elim
    | rt sv =>
      intro v σ' H' L' R' s' r
      have nf : ∀ a, a ∈ L' → a ∉ B → H a = none := fun a ma nb => by
        have z := R'.free ma
        have z' : hid H B a = none := z
        rw [hid_out nb] at z'
        exact z'
      have sb : ∀ a, a ∈ L' → ∀ b ∈ a :: B, b ∈ L' := fun a ma b m => by
        rcases List.mem_cons.mp m with rfl | m
        · exact ma
        · exact R'.sub b m
      cases sv with
      | d d => exact h v H' R'.kept (Dq.mono (hid_less R'.sub) _ r)
      | own o =>
        obtain ⟨a, ho, rfl, ma, nb, ha, hob, _⟩ := r
        exact h _ H' R'.kept ⟨a, ho, rfl, nf a ma nb, ha, hob.mono (hid_less (sb a ma))⟩
      | bor i =>
        dsimp only at h
        obtain ⟨e1, b, e2⟩ := r
        simp only [e2] at h
        obtain ⟨a, o, e3, ma, ha, hob⟩ := R'.slot i _ e2
        rw [e1] at e3
        cases e3
        have nb : a ∉ B := fun z => (R'.base a z).2.2 i _ e2 e1
        exact h _ H' R'.kept ⟨a, o, rfl, nf a ma nb, ha, hob.mono (hid_less (sb a ma))⟩
theorem fn_mir {wr : List Nat} {x qual : Str} {st : Stmt} {f : Addr} {fd : FuncData} {N ps : List Str} {k : Nat} {m : M Ct} (F : Fun K x qual st f fd) (S : FnScope N ps (defScope st))
    (hbody : ∀ (cdv : Value) (A : Around) (outer : List Env) (s : Shared) (H : Hp) (E : XK) (B : List Addr), Room k (A.deeper (envOfC qual (defScope st) s.heap.objs.size f cdv)) →
      PSs (cxOf (L2N.CX P w) P w K mg base N qual (defScope st) f cdv A outer s H E) (defBody st) (tS ⟨K, mg, hid H B, fun cls d _ H' => E cls d H', B, H, none⟩ wr m)) :
    FnOk P w K mg base (L2N.CX P w) (k + 1) f fd ps (spF K mg ps.length (runF ps.length N.length m)) :=
  okN F S (fun vs H Q E h => h.1) fun cdv A outer s H vs Q E hr h => by
    obtain ⟨B, q⟩ := mir_run (wr := wr) h
    exact ⟨_, hbody cdv A outer s H E B hr, q⟩
theorem fn_mirH {wr : List Nat} {x qual : Str} {st : Stmt} {f : Addr} {fd : FuncData} {N ps : List Str} {k : Nat} {m : M Ct} (F : Fun K x qual st f fd) (S : FnScope N ps (defScope st))
    (hbody : ∀ (cdv : Value) (A : Around) (outer : List Env) (s : Shared) (H : Hp) (E : XK) (B : List Addr) (p : Addr × Obj), L2H.Hot1 A p → L2H.RoomH k (A.deeper (envOfC qual (defScope st) s.heap.objs.size f cdv)) →
      PSs (L2H.cxH (L2N.CX P w) P w K mg base N qual (defScope st) f cdv A outer s H E p) (defBody st) (tS ⟨K, mg, hid H B, fun cls d _ H' => E cls d H', B, H, none⟩ wr m)) :
    L2H.FnH P w K mg base (L2N.CX P w) (k + 1) f fd ps (spF K mg ps.length (runF ps.length N.length m)) := by
  obtain ⟨oc, od, kV, doc, pm, an, cdv, ct, osl, rfl, lk, hcd⟩ := F.ex
  exact L2H.fn_ofH lk hcd S (fun vs H Q E h => h.1) fun A outer s H vs Q E p hp hr h => by
    obtain ⟨B, q⟩ := mir_run (wr := wr) h
    exact ⟨_, hbody cdv A outer s H E B p hp hr, q⟩
end
end L2

namespace L2
open PySem PySem.Spec PyProof.Rows

/-! ### f(..) -/
/-- a list of n arguments -/
def ArgN (mas : M (List SV)) (n : Nat) : Prop := ∀ en svs en', mas en = .ok svs en' → svs.length = n
theorem argN_nil : ArgN mNil 0 := fun en svs en' e => by cases e; rfl
theorem argN_cons {m : M SV} {r : M (List SV)} {n : Nat} (h : ArgN r n) : ArgN (mCons m r) (n + 1) := fun en svs en' e => by
  unfold mCons mbind at e
  cases e1 : mfrz m en with
  | stuck => rw [e1] at e; cases e
  | exc _ _ => rw [e1] at e; cases e
  | ok a en1 =>
    rw [e1] at e
    dsimp only at e
    cases e2 : r en1 with
    | stuck => rw [e2] at e; cases e
    | exc _ _ => rw [e2] at e; cases e
    | ok as en2 =>
      rw [e2] at e
      dsimp only at e
      split at e
      · cases e
        exact congrArg (· + 1) (h _ _ _ e2)
      · cases e
section
variable {X : Cx} {G : Gs} {k : Nat} {f : Addr} {fd : FuncData} {ps : List Str} {F : Fm} {mas : M (List SV)} {x : Str} {p pos : Pos} {e : Expr} {es : List Expr}
theorem je_call {n : Nat} (hF : FnOk X.prog X.w X.K X.mg X.base (L2N.CX X.prog X.w) k f fd ps (spF G.K G.mg n F)) (hr : Room k X.A) (tk : L2N.Takes X G.W) (hg : Gl X x) (hm : X.mg x = some (.ref f)) (hk : PySem.W.keepIn X.K (.ref f) = true) (hb : Binds X.K fd ps [])
    (hn : ArgN mas n) (ha : PA X (e :: es) (tA G mas)) (hdb : (x == ("__debug__" : Str)) = false := by decide) (he : starEach (e :: es) X.env = (false, eval e X.env) :: starEach es X.env := by rfl) (hpl : (backTo pos (starEach es X.env)).any (·.1) = false := by rfl) :
    PE X (.Call (.Name x p) (e :: es) [] pos) (tE G (mCall F mas)) := (pe_callS hF hr hg hm hk hb (fun σ => L2N.passAt tk σ) ha hdb he hpl).imp (call_imp hn)
theorem je_callH {n : Nat} (hF : L2H.FnH X.prog X.w X.K X.mg X.base (L2N.CX X.prog X.w) k f fd ps (spF G.K G.mg n F)) (hr : L2H.RoomH k X.A) (hc : L2H.HotC X) (tk : L2N.Takes X G.W) (hg : Gl X x) (hm : X.mg x = some (.ref f)) (hk : PySem.W.keepIn X.K (.ref f) = true) (hb : Binds X.K fd ps [])
    (hn : ArgN mas n) (ha : PA X (e :: es) (tA G mas)) (hdb : (x == ("__debug__" : Str)) = false := by decide) (he : starEach (e :: es) X.env = (false, eval e X.env) :: starEach es X.env := by rfl) (hpl : (backTo pos (starEach es X.env)).any (·.1) = false := by rfl) :
    PE X (.Call (.Name x p) (e :: es) [] pos) (tE G (mCall F mas)) := (L2H.pe_callH hF hr hc hg hm hk hb (fun σ => L2N.passAt tk σ) ha hdb he hpl).imp (call_imp hn)
end

/-! ### truth -/
def truD : D → Option Bool
  | .none => some false
  | .bool b => some b
  | .int i => some (i != 0)
  | .str z => if z.length ≤ sizeLine then some ((z.length : Int) != 0) else none
  | .list ds => some (!ds.isEmpty)
  | .tuple ds => some (!ds.isEmpty)
  | .dict [(.none, .list ds)] => some (!ds.isEmpty)
  | .dict kds => some (!kds.isEmpty)
theorem truV_of {K : Kf} {H : Hp} {L : List Addr} {x : V} {d : D} {b : Bool} (o : Opd K H L x d) (e : truD d = some b) : TruV K x H b := by
  have em : ∀ {xs : List V} {ds : List D} {H : Hp}, DqAll K H xs ds → xs.isEmpty = ds.isEmpty := fun h => by cases h <;> rfl
  unfold truD at e
  split at e
  · cases e; rw [o.none]; exact rfl
  · cases e; rw [o.bool]; exact rfl
  · cases e; rw [o.int]; exact rfl
  · split at e
    · rename_i h
      cases e
      rw [o.str]
      exact ⟨h, rfl⟩
    · cases e
  · cases e
    obtain ⟨a, xs, rfl, h1, h2⟩ := o.list'
    exact .inl ⟨xs, h1, by rw [em h2]⟩
  · cases e
    obtain ⟨a, xs, rfl, h1, h2⟩ := o.tuple
    exact .inr (.inl ⟨xs, h1, by rw [em h2]⟩)
  · cases e
    rcases o.dct with ⟨a, ns, rfl, e2, hs⟩ | ⟨a, kvs, ks, rfl, e2, ho, hk⟩
    · injection e2 with e2 _
      injection e2 with _ e2
      injection e2 with e2
      subst e2
      exact .inl ⟨_, hs, by cases ns <;> rfl⟩
    · cases ks with
      | nil => cases e2
      | cons p r =>
        injection e2 with e2 _
        injection e2 with e2 _
        cases h1 : p.1 <;> (rw [h1] at e2; exact nomatch e2)
  · rename_i kds hne
    cases e
    rcases o.dct with ⟨a, ns, rfl, e2, hs⟩ | ⟨a, kvs, ks, rfl, e2, ho, hk⟩
    · exact (hne _ (by rw [e2])).elim
    · subst e2
      exact .inr (.inr ⟨kvs, ho, by cases hk <;> rfl⟩)
def mTru (m : M SV) : M Bool := mbind (mfrz m) fun sv en => match look en sv with
  | some d => (match truD d with
    | some b => .ok b en
    | none => .stuck)
  | none => .stuck
section
variable {X : Cx} {G : Gs} {e : Expr} {m : M SV}
theorem jt_tru (hK : X.K = G.K) (h : PE X e (tE G m)) (he : ∀ whole, isTrue e X.env whole = (do let v ← whole; standAt e.pos; holding [v] (truthy v)) := by intro _; rfl) : PT X e (tT G (mTru m)) :=
  (pt_truth (je_frz h) he).imp fun σ H Q h => by
    obtain ⟨en, L, R, q⟩ := h
    refine (seqET R q).mono fun x H1 ⟨en1, L1, sv1, R1, s1, r1, q1⟩ => ?_
    cases e1 : look en1 sv1 with
    | none => simp only [e1] at q1; exact q1.elim
    | some d =>
      simp only [e1] at q1
      cases e2 : truD d with
      | none => simp only [e2] at q1; exact q1.elim
      | some b =>
        simp only [e2] at q1
        exact ⟨b, by rw [hK]; exact truV_of (RV.opd R1 (Same.refl _) r1 e1) e2, q1 H1 L1 R1 (Same.refl _)⟩
end

/-! ### targets -/
inductive Tg where
  | nm (i : Nat)
  | tp (is : List Nat)
def Tg.slots : Tg → List Nat
  | .nm i => [i]
  | .tp is => is
def setAll : List Nat → List D → En → En
  | i :: is, d :: ds, en => setAll is ds (en.set i (some (.d d)))
  | _, _, en => en
def setTg : Tg → D → En → Option En
  | .nm i, d, en => some (en.set i (some (.d d)))
  | .tp is, .tuple ds, en => if ds.length = is.length then some (setAll is ds en) else none
  | .tp _, _, _ => none
def gsOf : List Nat → TGs
  | [] => gNil
  | i :: is => gCons (gName i) (gsOf is)
def gOf (K : Kf) : Tg → TG
  | .nm i => gName i
  | .tp is => gTup K is.length (gsOf is)
theorem gs_run {G : Gs} {L : List Addr} {H : Hp} {Q : St → Hp → Prop} : ∀ {is : List Nat} {vs : List V} {ds : List D} {σ : St} {en : En}, RelS G L σ H en → DqAll G.K (hid H L) vs ds → ds.length = is.length →
    (∀ σ', RelS G L σ' H (setAll is ds en) → Keeps is σ σ' → Q σ' H) → gsOf is vs σ H Q
  | [], _, _, _, _, R, .nil, _, q => ⟨rfl, q _ R Keeps.refl⟩
  | i :: is, _, _, σ, en, R, .cons h t, hl, q => by
    refine ⟨_, _, rfl, ?_⟩
    exact gs_run (R.store_d h) t (by simpa using hl) fun σ' R' k => q σ' R' fun j hj => by
      rw [k j (fun z => hj (List.mem_cons_of_mem _ z)), List.getElem?_set_ne (fun z => hj (by rw [z]; exact List.mem_cons_self))]
  | _ :: _, _, _, _, _, _, .nil, hl, _ => by simp at hl
  | [], _, _, _, _, _, .cons _ _, hl, _ => by simp at hl
theorem g_run {G : Gs} {L : List Addr} {H : Hp} {σ : St} {en en' : En} {v : V} {d : D} {tg : Tg} {Q : St → Hp → Prop} (R : RelS G L σ H en) (h : Dq G.K (hid H L) v d) (e : setTg tg d en = some en')
    (q : ∀ σ', RelS G L σ' H en' → Keeps tg.slots σ σ' → Q σ' H) : gOf G.K tg v σ H Q := by
  cases tg with
  | nm i => cases e; exact q _ (R.store_d h) Keeps.set
  | tp is =>
    cases h with
    | @tup a0 xs0 ds0 hs ha =>
      simp only [setTg] at e
      by_cases hl : ds0.length = is.length
      · rw [if_pos hl] at e
        cases e
        exact ⟨_, _, rfl, sqT_mono hid_same hs, by rw [ha.length]; exact hl, gs_run R ha hl q⟩
      · rw [if_neg hl] at e
        cases e
    | _ => cases e
/-- an assignment of data to a target -/
def mAsg (tg : Tg) (m : M SV) : M Ct := mbind (mkeep m) fun sv en => match sv with
  | .d d => (match setTg tg d en with
    | some en' => .ok .nx en'
    | none => .stuck)
  | _ => .stuck
section
variable {X : Cx} {G : Gs} {e t : Expr} {m : M SV} {pos : Pos} {tg : Tg}
theorem js_asg (hK : X.K = G.K) (hg : PG X t (gOf X.K tg)) (he : PE X e (tE G m)) (hs : swapsWithSole [t] e pos.line X.env = pure false := by rfl) (hw : swappedStores [t] e X.env = pure none := by rfl)
    (h1 : (assignEach [t] X.env).map (·.2) = [assign t X.env] := by rfl) : PS X (.Assign [t] e pos) (tS G tg.slots (mAsg tg m)) := (ps_asg (je_keep he) hg hs hw h1).imp fun E σ H h => by
  obtain ⟨en, L, R, q⟩ := h
  refine (seqES R q).mono fun v H1 ⟨en1, L1, sv, R1, s1, r1, q1⟩ => ?_
  cases sv with
  | own _ => exact q1.elim
  | bor _ => exact q1.elim
  | d d =>
    dsimp only at q1
    cases e1 : setTg tg d en1 with
    | none => rw [e1] at q1; exact q1.elim
    | some en' =>
      rw [e1] at q1
      rw [hK]
      exact g_run R1 r1 e1 fun σ' R' k => q1 σ' H1 L1 R' (Same.refl _) k
end

/-! ### for -/
open Classical in
/-- the slot that is walked has not changed -/
noncomputable def chkOk (c : Option (Nat × List D)) (en : En) : Bool := match c with
  | none => true
  | some (i, ds) => decide (en[i]? = some (some (SV.own (.lst ds))))
noncomputable def forGo (tg : Tg) (c : Option (Nat × List D)) (body : M Ct) : List D → M Ct
  | [], en => if chkOk c en then .ok .nx en else .stuck
  | d :: r, en => if chkOk c en then (match setTg tg d en with
      | none => .stuck
      | some en1 => match body en1 with
        | .ok .nx en2 => forGo tg c body r en2
        | .ok .ct en2 => forGo tg c body r en2
        | .ok .bk en2 => .ok .nx en2
        | .ok (.rt sv) en2 => .ok (.rt sv) en2
        | .exc x en2 => .exc x en2
        | .stuck => .stuck) else .stuck
/-- what a loop walks -/
structure Walks (K : Kf) (J : It) (ok : Hp → List Addr → Prop) (ds : List D) : Prop where
  go : ∀ i H L, ok H L → i < ds.length → J.go i H
  stop : ∀ i H L, ok H L → i = ds.length → J.stop i H
  yld : ∀ i H L x H' d, ok H L → ds[i]? = some d → J.yld i H x H' → Owns H L → Same H H' ∧ Dq K (hid H' L) x d
section
variable {G : Gs} {J : It} {tg : Tg} {body : M Ct} {wb : List Nat} {ds : List D} {H : Hp} {L : List Addr} {σ : St} {en : En} {E : Ends} {c : Option (Nat × List D)}
theorem for_run {ok : Hp → List Addr → Prop} (W : Walks G.K J ok ds) (R : RelS G L σ H en) (q : PostS G (tg.slots ++ wb) σ H L (forGo tg c body ds en) E)
    (k : ∀ σ' H' L' en', RelS G L' σ' H' en' → Same (hid H L) (hid H' L') → Keeps (tg.slots ++ wb) σ σ' → chkOk c en' = true → ok H' L') :
    ∃ W : Nat → Nat → St → Hp → Prop, (∃ m, W 0 m σ H) ∧ ∀ i m σ H, W i m σ H →
      (J.stop i H ∧ E.nx σ H) ∨ (J.go i H ∧ ∃ N : St → Hp → Prop, (∀ σ' H', N σ' H' → ∃ m', m' < m ∧ W (i + 1) m' σ' H') ∧ ∀ x H', J.yld i H x H' → gOf G.K tg x σ H' fun σ2 H2 => tS G wb body { E with nx := N, ct := N, bk := E.nx } σ2 H2) := by
  refine ⟨fun i m σ' H' => i + m = ds.length ∧ ∃ en' L', RelS G L' σ' H' en' ∧ Same (hid H L) (hid H' L') ∧ Keeps (tg.slots ++ wb) σ σ' ∧ PostS G (tg.slots ++ wb) σ' H' L' (forGo tg c body (ds.drop i) en') E, ⟨ds.length, by omega, en, L, R, Same.refl _, Keeps.refl, q⟩, ?_⟩
  rintro i m σ1 H1 ⟨hm, en1, L1, R1, s1, k1, q1⟩
  by_cases hi : i < ds.length
  · obtain ⟨d, hd⟩ : ∃ d, ds[i]? = some d := ⟨ds[i], List.getElem?_eq_getElem hi⟩
    have hdrop : ds.drop i = d :: ds.drop (i + 1) := by
      rw [List.drop_eq_getElem_cons hi]
      rw [List.getElem?_eq_getElem hi] at hd
      cases hd
      rfl
    rw [hdrop] at q1
    unfold forGo at q1
    split at q1
    · rename_i hc
      have hok := k σ1 H1 L1 en1 R1 s1 k1 hc
      refine .inr ⟨W.go i H1 L1 hok hi, fun σ' H' => ∃ en' L', RelS G L' σ' H' en' ∧ Same (hid H L) (hid H' L') ∧ Keeps (tg.slots ++ wb) σ σ' ∧ PostS G (tg.slots ++ wb) σ' H' L' (forGo tg c body (ds.drop (i + 1)) en') E, fun σ' H' n => ⟨m - 1, by omega, by omega, n⟩, fun x H2 hy => ?_⟩
      obtain ⟨s2, hx⟩ := W.yld i H1 L1 x H2 d hok hd hy R1.own
      have R2 := R1.grow s2
      cases e : setTg tg d en1 with
      | none => rw [e] at q1; exact q1.elim
      | some en2 =>
        rw [e] at q1
        refine g_run R2 hx e fun σ2 R3 k2 => ⟨en2, L1, R3, ?_⟩
        have s12 : Same (hid H1 L1) (hid H2 L1) := hid_mono s2
        dsimp only at q1
        have kt : Keeps (tg.slots ++ wb) σ1 σ2 := k2.mono fun j z => List.mem_append_left _ z
        have kc : ∀ {σa σb σc : St}, Keeps (tg.slots ++ wb) σa σb → Keeps (tg.slots ++ wb) σb σc → Keeps (tg.slots ++ wb) σa σc := fun a b j hj => (b j hj).trans (a j hj)
        have kb : ∀ {σ3 : St}, Keeps wb σ2 σ3 → Keeps (tg.slots ++ wb) σ1 σ3 := fun k3 => kc kt (k3.mono fun j z => List.mem_append_right _ z)
        have pf : ∀ {r : Rs Ct} {σ3 H3 L3}, PostS G (tg.slots ++ wb) σ1 H1 L1 r E → Same (hid H1 L1) (hid H3 L3) → Keeps (tg.slots ++ wb) σ1 σ3 → PostS G (tg.slots ++ wb) σ3 H3 L3 r E := fun {r σ3 H3 L3} h a b => by
          refine PostS.from (w1 := tg.slots ++ wb) a b (PostS.less ?_ h)
          intro j z
          rcases List.mem_append.mp z with z | z <;> exact z
        cases e2 : body en2 with
        | stuck => rw [e2] at q1; exact q1.elim
        | exc x en3 =>
          rw [e2] at q1
          exact PostX.imp (PostX.from s12 q1) fun σ' k3 => kb k3
        | ok ct en3 =>
          rw [e2] at q1
          cases ct with
          | nx => exact fun σ3 H3 L3 R4 s3 k3 => ⟨en3, L3, R4, s1.trans (s12.trans s3), kc k1 (kb k3), pf q1 (s12.trans s3) (kb k3)⟩
          | ct => exact fun σ3 H3 L3 R4 s3 k3 => ⟨en3, L3, R4, s1.trans (s12.trans s3), kc k1 (kb k3), pf q1 (s12.trans s3) (kb k3)⟩
          | bk => exact fun σ3 H3 L3 R4 s3 k3 => q1 σ3 H3 L3 R4 (s12.trans s3) (kb k3)
          | rt sv => exact fun v σ3 H3 L3 R4 s3 r => q1 v σ3 H3 L3 R4 (s12.trans s3) r
    · exact q1.elim
  · have hi' : i = ds.length := by omega
    have hdrop : ds.drop i = [] := List.drop_eq_nil_of_le (by omega)
    rw [hdrop] at q1
    unfold forGo at q1
    split at q1
    · rename_i hc
      exact .inl ⟨W.stop i H1 L1 (k σ1 H1 L1 en1 R1 s1 k1 hc) hi', q1 σ1 H1 L1 R1 (Same.refl _) Keeps.refl⟩
    · exact q1.elim
/-! ### what may be walked -/
theorem walks_list {K : Kf} {a : Addr} {ds : List D} : Walks K (Itl K a) (fun H L => ∃ xs, H a = some (.lst xs) ∧ DqAll K (hid H L) xs ds) ds where
  go := fun i H L ⟨xs, h, hd⟩ hi => ⟨xs, xs[i]'(by rw [hd.length]; exact hi), .of h, List.getElem?_eq_getElem _⟩
  stop := fun i H L ⟨xs, h, hd⟩ hi => ⟨xs, .of h, by rw [hd.length]; omega⟩
  yld := fun i H L x H' d ⟨xs, h, hd⟩ hi ⟨e, y⟩ _ => by
    subst e
    obtain ⟨v, e1, e2⟩ := hd.get hi
    have z := y xs (.of h)
    rw [e1] at z
    cases z
    exact ⟨Same.refl _, e2⟩
theorem walks_tup {K : Kf} {a : Addr} {ds : List D} : Walks K (Itt K a) (fun H L => ∃ xs, SqT K H a xs ∧ DqAll K (hid H L) xs ds) ds where
  go := fun i H L ⟨xs, h, hd⟩ hi => ⟨xs, xs[i]'(by rw [hd.length]; exact hi), h, List.getElem?_eq_getElem _⟩
  stop := fun i H L ⟨xs, h, hd⟩ hi => ⟨xs, h, by rw [hd.length]; omega⟩
  yld := fun i H L x H' d ⟨xs, h, hd⟩ hi ⟨e, y⟩ _ => by
    subst e
    obtain ⟨v, e1, e2⟩ := hd.get hi
    have z := y xs h
    rw [e1] at z
    cases z
    exact ⟨Same.refl _, e2⟩
def signs (z : Str) : List D := z.cps.toList.map fun c => .str ⟨#[c]⟩
theorem walks_str {K : Kf} {z : Str} : Walks K (Its z) (fun _ _ => True) (signs z) where
  go := fun i H L _ hi => by
    unfold signs at hi
    rw [List.length_map] at hi
    exact (by simpa using hi : i < z.cps.size)
  stop := fun i H L _ hi => by
    unfold signs at hi
    rw [List.length_map] at hi
    exact (by simp at hi; omega : z.cps.size ≤ i)
  yld := fun i H L x H' d _ hi y _ => by
    obtain ⟨e, c, hc, e2⟩ := y
    subst e e2
    unfold signs at hi
    rw [List.getElem?_map, Array.getElem?_toList, hc] at hi
    cases hi
    exact ⟨Same.refl _, .str _⟩
def rngD (lo : Int) (n : Nat) : List D := (List.range n).map fun k => .int (lo + (k : Nat))
theorem walks_rng {K : Kf} {lo : Int} {n : Nat} : Walks K (Itr lo n) (fun _ _ => True) (rngD lo n) where
  go := fun i H L _ hi => by
    unfold rngD at hi
    rw [List.length_map, List.length_range] at hi
    exact hi
  stop := fun i H L _ hi => by
    unfold rngD at hi
    rw [List.length_map, List.length_range] at hi
    exact (by omega : n ≤ i)
  yld := fun i H L x H' d _ hi y _ => by
    obtain ⟨e, e2⟩ := y
    subst e e2
    unfold rngD at hi
    rw [List.getElem?_map] at hi
    by_cases h : i < n
    · rw [List.getElem?_range h] at hi
      cases hi
      exact ⟨Same.refl _, .int _⟩
    · rw [List.getElem?_eq_none (by rw [List.length_range]; omega)] at hi
      cases hi
end
end L2

namespace L2
open PySem PySem.Spec PyProof.Rows

/-! ### an iterator over a list, a tuple, a text -/
section
variable {X : Cx} {tg : Expr}
theorem it_list {pins : List (Addr × Obj)} {σ : St} {H : Hp} {s : Shared} {R : It → Hp → Prop} {a : Addr} {xs : List V} (I : Inv X pins σ H s) (h : SqL X.K H a xs) (q : R (Itl X.K a) H) : wpAny (model X.prog X.w) X.A (pyIter (.ref a)) (PIE X pins σ tg R) X.xe s := by
  obtain ⟨its, _, pl, _⟩ := I.list h
  refine wpAny_pyIter_list pl.isList ⟨_, [s.heap.objs.size], _, _, H, rfl, I.kept (t' := s.toks) (fun _ _ e => Heap.get?_push_of_some _ e), turn_list a _, ⟨_, Heap.get?_push_size _ rfl, rfl, rfl⟩, fun b m => ?_, q⟩
  rw [List.mem_singleton.mp m]
  exact I.fpOk (Nat.le_refl _) I.fresh
theorem it_tup {pins : List (Addr × Obj)} {σ : St} {H : Hp} {s : Shared} {R : It → Hp → Prop} {a : Addr} {xs : List V} (I : Inv X pins σ H s) (h : SqT X.K H a xs) (q : R (Itt X.K a) H) : wpAny (model X.prog X.w) X.A (pyIter (.ref a)) (PIE X pins σ tg R) X.xe s := by
  obtain ⟨its, _, pl, _⟩ := I.tuple h
  refine wpAny_pyIter_tuple pl ⟨_, [s.heap.objs.size], _, _, H, rfl, I.kept (t' := s.toks) (fun _ _ e => Heap.get?_push_of_some _ e), turn_tuple a _, ⟨_, Heap.get?_push_size _ rfl, rfl, rfl⟩, fun b m => ?_, q⟩
  rw [List.mem_singleton.mp m]
  exact I.fpOk (Nat.le_refl _) I.fresh
theorem it_str {pins : List (Addr × Obj)} {σ : St} {H : Hp} {s : Shared} {R : It → Hp → Prop} {z : Str} {t : Tok} (I : Inv X pins σ H s) (q : R (Its z) H) : wpAny (model X.prog X.w) X.A (pyIter (.str z t)) (PIE X pins σ tg R) X.xe s := by
  cases hz : z.cps.all (· < 128) with
  | false => exact wpAny_pyIter_wide hz (pi_one (tk := s.toks) I _ (turn_str _ z t "str_iterator" (.inr rfl)) ⟨_, Heap.get?_push_size _ rfl, rfl, rfl⟩ q)
  | true => exact wpAny_pyIter_ascii hz (pi_one (tk := s.toks) I _ (turn_str _ z t "str_ascii_iterator" (.inl rfl)) ⟨_, Heap.get?_push_size _ rfl, rfl, rfl⟩ q)
def iAny (K : Kf) (te : TE) : TI := fun σ H R => te σ H fun x H1 => (∃ a xs, x = .ref a ∧ SqL K H1 a xs ∧ R (Itl K a) H1) ∨ (∃ a xs, x = .ref a ∧ SqT K H1 a xs ∧ R (Itt K a) H1) ∨ ∃ z, x = .str z ∧ R (Its z) H1
theorem pi_any {e : Expr} {te : TE} (he : PE X e te) : PI X tg e (iAny X.K te) := ⟨fun pins s σ H R I h => thn (he.run pins s σ H _ I h) fun v s1 ⟨x, H1, I1, r1, q1⟩ => by
  rcases q1 with ⟨a, xs, rfl, h, q⟩ | ⟨a, xs, rfl, h, q⟩ | ⟨z, rfl, q⟩
  · obtain rfl := r1
    exact it_list I1 h q
  · obtain rfl := r1
    exact it_tup I1 h q
  · obtain ⟨t, rfl⟩ := r1
    exact it_str I1 q⟩
end

/-! ### for x in .. -/
noncomputable def mFor (tg : Tg) (wb : List Nat) (me : M SV) (body : M Ct) : M Ct := mbind (mfrz me) fun sv en => match sv with
  | .d (.list ds) => forGo tg none body ds en
  | .d (.tuple ds) => forGo tg none body ds en
  | .d (.str z) => forGo tg none body (signs z) en
  | .bor i => (match en[i]? with
    | some (some (.own (.lst ds))) => if (tg.slots ++ wb).contains i then .stuck else forGo tg (some (i, ds)) body ds en
    | _ => .stuck)
  | _ => .stuck
noncomputable def mForR1 (tg : Tg) (mas : M (List SV)) (body : M Ct) : M Ct := mbind mas fun svs en => match looks en svs with
  | some [.int j] => if -(2 ^ 62) ≤ j ∧ j < 2 ^ 62 then forGo tg none body (rngD 0 j.toNat) en else .stuck
  | _ => .stuck
noncomputable def mForR2 (tg : Tg) (mas : M (List SV)) (body : M Ct) : M Ct := mbind mas fun svs en => match looks en svs with
  | some [.int i, .int j] => if (-(2 ^ 62) ≤ i ∧ i < 2 ^ 62) ∧ -(2 ^ 62) ≤ j ∧ j < 2 ^ 62 then forGo tg none body (rngD i (j - i).toNat) en else .stuck
  | _ => .stuck
section
variable {X : Cx} {G : Gs} {t iter : Expr} {body : List Stmt} {me : M SV} {mb : M Ct} {wb : List Nat} {tg : Tg} {pos : Pos}
theorem js_for (hp : PassesOwn (model X.prog X.w) X.A X.env X.xe) (hc : X.calm = true) (hK : X.K = G.K) (he : PE X iter (tE G me)) (hg : PG X t (gOf X.K tg)) (hb : PSs X body (tS G wb mb)) (hs : ∀ x, foldedSetIterable iter X.env x = pure x := by intro _; rfl) :
    PS X (.For t iter body [] pos) (tS G (tg.slots ++ wb) (mFor tg wb me mb)) := (ps_for hp hc (pi_any (je_frz he)) hg hb hs).imp fun E σ H h => by
  obtain ⟨en, L, R, q⟩ := h
  refine (seqES R q).mono fun v H1 ⟨en1, L1, sv, R1, s1, r1, q1⟩ => ?_
  rw [hK]
  cases sv with
  | own _ => exact q1.elim
  | bor i =>
    obtain ⟨e1, b, e2⟩ := r1
    simp only [e2] at q1
    cases b with
    | dct _ => exact q1.elim
    | lst ds =>
      dsimp only at q1
      split at q1
      · exact q1.elim
      · rename_i hni
        obtain ⟨a, xs, e3, ma, ho, hr⟩ := slot_lst R1 e2
        rw [e1] at e3
        cases e3
        refine .inl ⟨a, xs, rfl, .of ho, ?_⟩
        refine for_run walks_list R1 q1 fun σ' H' L' en' R' s' k' c' => ?_
        have c2 : en'[i]? = some (some (SV.own (.lst ds))) := by simpa [chkOk] using c'
        obtain ⟨a', xs', e4, _, ho', hr'⟩ := slot_lst R' c2
        rw [k' i (fun z => hni (List.contains_iff_mem.mpr z)), e1] at e4
        cases e4
        exact ⟨xs', ho', hr'⟩
  | d d =>
    cases d with
    | list ds =>
      cases r1 with
      | lst hs ha =>
        refine .inl ⟨_, _, rfl, .of (hid_same _ _ hs), for_run walks_list R1 q1 fun σ' H' L' en' R' s' k' c' => ⟨_, hid_same _ _ (s' _ _ hs), DqAll.mono s' _ ha⟩⟩
    | tuple ds =>
      cases r1 with
      | tup hs ha =>
        refine .inr (.inl ⟨_, _, rfl, sqT_mono hid_same hs, for_run walks_tup R1 q1 fun σ' H' L' en' R' s' k' c' => ⟨_, sqT_mono hid_same (sqT_mono s' hs), DqAll.mono s' _ ha⟩⟩)
    | str z =>
      cases r1
      exact .inr (.inr ⟨z, rfl, for_run walks_str R1 q1 fun _ _ _ _ _ _ _ _ => trivial⟩)
    | _ => exact q1.elim
theorem seqAS {mas : M (List SV)} {f : List SV → M Ct} {wr : List Nat} {H : Hp} {L : List Addr} {σ : St} {en : En} {E : Ends} (R : RelS G L σ H en) (q : PostS G wr σ H L (mbind mas f en) E) :
    tA G mas σ H fun x H1 => ∃ en1 L1 sv, RelS G L1 σ H1 en1 ∧ Same (hid H L) (hid H1 L1) ∧ RVs G L1 σ H1 en1 x sv ∧ PostS G wr σ H1 L1 (f sv en1) E := by
  refine ⟨en, L, R, ?_⟩
  unfold mbind at q
  cases e : mas en with
  | ok sv en' =>
    rw [e] at q
    exact fun v H' L' a b c => ⟨en', L', sv, a, b, c, q.from0 b⟩
  | exc x en' =>
    rw [e] at q
    exact PostX.at q
  | stuck =>
    rw [e] at q
    exact q
theorem forR1_imp {mas : M (List SV)} (hK : X.K = G.K) (E : Ends) (σ : St) (H : Hp) (h : tS G (tg.slots ++ wb) (mForR1 tg mas mb) E σ H) : tFor (iRng1 (tA G mas)) (gOf X.K tg) (tS G wb mb) E σ H := by
  obtain ⟨en, L, R, q⟩ := h
  refine (seqAS R q).mono fun vs H1 ⟨en1, L1, svs, R1, s1, r1, q1⟩ => ?_
  rw [hK]
  cases e : looks en1 svs with
  | none => simp only [e] at q1; exact q1.elim
  | some ds =>
    simp only [e] at q1
    have o := RVs.opd R1 (Same.refl _) r1 e
    split at q1
    · rename_i j heq
      cases heq
      split at q1
      · rename_i hj
        cases o with
        | cons h t => cases t; exact ⟨j, by rw [h.int], hj.1, hj.2, for_run walks_rng R1 q1 fun _ _ _ _ _ _ _ _ => trivial⟩
      · exact q1.elim
    · exact q1.elim
theorem js_forR1 {a : Expr} {mas : M (List SV)} {p pos' : Pos} (hp : PassesOwn (model X.prog X.w) X.A X.env X.xe) (hc : X.calm = true) (hK : X.K = G.K) (hgl : Gl X "range") (hm : X.mg "range" = none) (ha : PA X [a] (tA G mas)) (hg : PG X t (gOf X.K tg)) (hb : PSs X body (tS G wb mb))
    (hs : starEach [a] X.env = [(false, eval a X.env)] := by rfl) (hf : ∀ x, foldedSetIterable (.Call (.Name "range" p) [a] [] pos') X.env x = pure x := by intro _; rfl) :
    PS X (.For t (.Call (.Name "range" p) [a] [] pos') body [] pos) (tS G (tg.slots ++ wb) (mForR1 tg mas mb)) := (ps_for hp hc (pi_range1 hgl hm ha hs) hg hb hf).imp (forR1_imp hK)
theorem js_forR1H {a : Expr} {mas : M (List SV)} {p pos' : Pos} (hp : PassesOwn (model X.prog X.w) X.A X.env X.xe) (hc : L2H.HotC X) (hK : X.K = G.K) (hgl : Gl X "range") (hm : X.mg "range" = none) (ha : PA X [a] (tA G mas)) (hg : PG X t (gOf X.K tg)) (hb : PSs X body (tS G wb mb))
    (hs : starEach [a] X.env = [(false, eval a X.env)] := by rfl) (hf : ∀ x, foldedSetIterable (.Call (.Name "range" p) [a] [] pos') X.env x = pure x := by intro _; rfl) :
    PS X (.For t (.Call (.Name "range" p) [a] [] pos') body [] pos) (tS G (tg.slots ++ wb) (mForR1 tg mas mb)) := (L2H.ps_forH hp hc (L2H.pi_range1H hgl hm ha hs) hg hb hf).imp (forR1_imp hK)
theorem js_forR2 {a b : Expr} {mas : M (List SV)} {p pos' : Pos} (hp : PassesOwn (model X.prog X.w) X.A X.env X.xe) (hc : X.calm = true) (hK : X.K = G.K) (hgl : Gl X "range") (hm : X.mg "range" = none) (ha : PA X [a, b] (tA G mas)) (hg : PG X t (gOf X.K tg)) (hb : PSs X body (tS G wb mb))
    (hs : starEach [a, b] X.env = [(false, eval a X.env), (false, eval b X.env)] := by rfl) (hs2 : starEach [b] X.env = [(false, eval b X.env)] := by rfl) (hf : ∀ x, foldedSetIterable (.Call (.Name "range" p) [a, b] [] pos') X.env x = pure x := by intro _; rfl) :
    PS X (.For t (.Call (.Name "range" p) [a, b] [] pos') body [] pos) (tS G (tg.slots ++ wb) (mForR2 tg mas mb)) := (ps_for hp hc (pi_range2 hgl hm ha hs hs2) hg hb hf).imp fun E σ H h => by
  obtain ⟨en, L, R, q⟩ := h
  refine (seqAS R q).mono fun vs H1 ⟨en1, L1, svs, R1, s1, r1, q1⟩ => ?_
  rw [hK]
  cases e : looks en1 svs with
  | none => simp only [e] at q1; exact q1.elim
  | some ds =>
    simp only [e] at q1
    have o := RVs.opd R1 (Same.refl _) r1 e
    split at q1
    · rename_i i j heq
      cases heq
      split at q1
      · rename_i hj
        cases o with
        | cons h t => cases t with
          | cons h2 t => cases t; exact ⟨i, j, by rw [h.int, h2.int], ⟨hj.1.1, hj.1.2, hj.2.1, hj.2.2⟩, for_run walks_rng R1 q1 fun _ _ _ _ _ _ _ _ => trivial⟩
      · exact q1.elim
    · exact q1.elim
/-! ### while -/
def whGo (t : M Bool) (b : M Ct) : Nat → M Ct
  | 0, _ => .stuck
  | n + 1, en => match t en with
    | .ok true en1 => (match b en1 with
      | .ok .nx en2 => whGo t b n en2
      | .ok .ct en2 => whGo t b n en2
      | .ok .bk en2 => .ok .nx en2
      | .ok (.rt sv) en2 => .ok (.rt sv) en2
      | .exc x en2 => .exc x en2
      | .stuck => .stuck)
    | .ok false en1 => .ok .nx en1
    | .exc x en1 => .exc x en1
    | .stuck => .stuck
def mWhile (fuel : Nat) (t : M Bool) (b : M Ct) : M Ct := whGo t b fuel
theorem js_while (fuel : Nat) {c : Expr} {mt : M Bool} (hp : PassesOwn (model X.prog X.w) X.A X.env X.xe) (hc : PT X c (tT G mt)) (hb : PSs X body (tS G wb mb)) : PS X (.While c body [] pos) (tS G wb (mWhile fuel mt mb)) := (ps_while hp hc hb).imp fun E σ H h => by
  obtain ⟨en, L, R, q⟩ := h
  have kc : ∀ {σa σb σc : St}, Keeps wb σa σb → Keeps wb σb σc → Keeps wb σa σc := fun a b j hj => (b j hj).trans (a j hj)
  have pf : ∀ {r : Rs Ct} {σ1 H1 L1 σ3 H3 L3}, PostS G wb σ1 H1 L1 r E → Same (hid H1 L1) (hid H3 L3) → Keeps wb σ1 σ3 → PostS G wb σ3 H3 L3 r E := fun {r σ1 H1 L1 σ3 H3 L3} h a b => by
    refine PostS.from (w1 := wb) a b (PostS.less ?_ h)
    intro j z
    rcases List.mem_append.mp z with z | z <;> exact z
  refine ⟨fun m σ' H' => ∃ en' L', RelS G L' σ' H' en' ∧ PostS G wb σ' H' L' (whGo mt mb m en') E, ⟨fuel, en, L, R, q⟩, ?_⟩
  rintro m σ1 H1 ⟨en1, L1, R1, q1⟩
  cases m with
  | zero => exact q1.elim
  | succ n =>
    unfold whGo at q1
    refine ⟨en1, L1, R1, ?_⟩
    cases e : mt en1 with
    | stuck => rw [e] at q1; exact q1
    | exc x en2 => rw [e] at q1; exact PostX.at q1
    | ok b en2 =>
      rw [e] at q1
      intro H2 L2 R2 s2
      cases b with
      | false => exact q1 σ1 H2 L2 R2 s2 Keeps.refl
      | true =>
        rw [if_pos rfl]
        refine ⟨fun σ' H' => ∃ en' L', RelS G L' σ' H' en' ∧ PostS G wb σ' H' L' (whGo mt mb n en') E, fun σ' H' w => ⟨n, Nat.lt_succ_self n, w⟩, en2, L2, R2, ?_⟩
        dsimp only at q1
        cases e2 : mb en2 with
        | stuck => rw [e2] at q1; exact q1.elim
        | exc x en3 => rw [e2] at q1; exact PostX.from s2 q1
        | ok ct en3 =>
          rw [e2] at q1
          cases ct with
          | nx => exact fun σ3 H3 L3 R4 s3 k3 => ⟨en3, L3, R4, pf q1 (s2.trans s3) k3⟩
          | ct => exact fun σ3 H3 L3 R4 s3 k3 => ⟨en3, L3, R4, pf q1 (s2.trans s3) k3⟩
          | bk => exact fun σ3 H3 L3 R4 s3 k3 => q1 σ3 H3 L3 R4 (s2.trans s3) k3
          | rt sv => exact fun v σ3 H3 L3 R4 s3 r => q1 v σ3 H3 L3 R4 (s2.trans s3) r
end
end L2

namespace L2
open PySem PySem.Spec PyProof.Rows

/-! ### slots of a comprehension's own -/
def wipeEn (en : En) : List Nat → En
  | [] => en
  | i :: vs => (wipeEn en vs).set i none
theorem wipe_keeps (σ : St) : ∀ vs : List Nat, Keeps vs σ (wipe σ vs)
  | [] => Keeps.refl
  | i :: vs => fun j h => by
    show ((wipe σ vs).set i none)[j]? = _
    rw [List.getElem?_set_ne (fun z => h (by rw [z]; exact List.mem_cons_self))]
    exact wipe_keeps σ vs j fun z => h (List.mem_cons_of_mem _ z)
theorem wipeEn_out (en : En) : ∀ {vs : List Nat} {j : Nat}, j ∉ vs → (wipeEn en vs)[j]? = en[j]?
  | [], _, _ => rfl
  | i :: vs, j, h => by
    show ((wipeEn en vs).set i none)[j]? = _
    rw [List.getElem?_set_ne (fun z => h (by rw [z]; exact List.mem_cons_self))]
    exact wipeEn_out en fun z => h (List.mem_cons_of_mem _ z)
theorem wipeEn_in (en : En) : ∀ {vs : List Nat} {j : Nat} {sv : SV}, j ∈ vs → (wipeEn en vs)[j]? = some (some sv) → False
  | i :: vs, j, sv, h, e => by
    have e : ((wipeEn en vs).set i none)[j]? = some (some sv) := e
    by_cases hj : i = j
    · subst hj
      by_cases hl : i < (wipeEn en vs).length
      · rw [List.getElem?_set_self hl] at e
        cases e
      · rw [List.getElem?_eq_none (by rw [List.length_set]; omega)] at e
        cases e
    · rw [List.getElem?_set_ne hj] at e
      exact wipeEn_in en ((List.mem_cons.mp h).resolve_left fun z => hj z.symm) e
theorem RelS.wipe {G : Gs} {L : List Addr} {σ : St} {H : Hp} {en : En} (R : RelS G L σ H en) : ∀ vs : List Nat, RelS G L (L2.wipe σ vs) H (wipeEn en vs)
  | [] => R
  | i :: vs => (RelS.wipe R vs).forget (w := none)
theorem wipe_same {σ σ' : St} : ∀ {vs : List Nat}, σ.length = σ'.length → (∀ j, j ∉ vs → σ'[j]? = σ[j]?) → wipe σ' vs = wipe σ vs := fun {vs} hl h => by
  refine List.ext_getElem? fun j => ?_
  have key : ∀ (τ : St) (us : List Nat), j ∈ us → (wipe τ us)[j]? = if j < τ.length then some none else none := fun τ us => by
    induction us with
    | nil => intro m; cases m
    | cons i us ih =>
      intro m
      show ((wipe τ us).set i none)[j]? = _
      by_cases hj : i = j
      · subst hj
        by_cases hlt : i < τ.length
        · rw [List.getElem?_set_self (by rw [wipe_length]; exact hlt), if_pos hlt]
        · rw [List.getElem?_eq_none (by rw [List.length_set, wipe_length]; omega), if_neg hlt]
      · rw [List.getElem?_set_ne hj]
        exact ih ((List.mem_cons.mp m).resolve_left fun z => hj z.symm)
  by_cases m : j ∈ vs
  · rw [key _ _ m, key _ _ m, hl]
  · rw [wipe_keeps σ' vs j m, wipe_keeps σ vs j m, h j m]
theorem wipeEn_len (en : En) : ∀ vs : List Nat, (wipeEn en vs).length = en.length
  | [] => rfl
  | i :: vs => by
    show ((wipeEn en vs).set i none).length = _
    rw [List.length_set]
    exact wipeEn_len en vs
theorem wipeEn_same {en en' : En} {vs : List Nat} (hl : en.length = en'.length) (h : ∀ j, j ∉ vs → en'[j]? = en[j]?) : wipeEn en' vs = wipeEn en vs := by
  refine List.ext_getElem? fun j => ?_
  have key : ∀ (τ : En) (us : List Nat), j ∈ us → (wipeEn τ us)[j]? = if j < τ.length then some none else none := fun τ us => by
    induction us with
    | nil => intro m; cases m
    | cons i us ih =>
      intro m
      show ((wipeEn τ us).set i none)[j]? = _
      by_cases hj : i = j
      · subst hj
        by_cases hlt : i < τ.length
        · rw [List.getElem?_set_self (by rw [wipeEn_len]; exact hlt), if_pos hlt]
        · rw [List.getElem?_eq_none (by rw [List.length_set, wipeEn_len]; omega), if_neg hlt]
      · rw [List.getElem?_set_ne hj]
        exact ih ((List.mem_cons.mp m).resolve_left fun z => hj z.symm)
  by_cases m : j ∈ vs
  · rw [key _ _ m, key _ _ m, hl]
  · rw [wipeEn_out _ m, wipeEn_out _ m, h j m]
theorem setAll_out : ∀ {is : List Nat} {ds : List D} {en : En} {j : Nat}, j ∉ is → (setAll is ds en)[j]? = en[j]?
  | [], _, _, _, _ => by simp [setAll]
  | _ :: _, [], _, _, _ => by simp [setAll]
  | i :: is, d :: ds, en, j, h => by
    rw [setAll, setAll_out fun z => h (List.mem_cons_of_mem _ z), List.getElem?_set_ne (fun z => h (by rw [z]; exact List.mem_cons_self))]
theorem setAll_len : ∀ {is : List Nat} {ds : List D} {en : En}, (setAll is ds en).length = en.length
  | [], _, _ => by simp [setAll]
  | _ :: _, [], _ => by simp [setAll]
  | i :: is, d :: ds, en => by rw [setAll, setAll_len, List.length_set]
theorem setTg_out {tg : Tg} {d : D} {en en' : En} (e : setTg tg d en = some en') : en'.length = en.length ∧ ∀ j, j ∉ tg.slots → en'[j]? = en[j]? := by
  cases tg with
  | nm i =>
    cases e
    exact ⟨List.length_set .., fun j h => List.getElem?_set_ne (fun z => h (by rw [z]; exact List.mem_singleton.mpr rfl))⟩
  | tp is =>
    cases d with
    | tuple ds =>
      simp only [setTg] at e
      split at e
      · cases e
        exact ⟨setAll_len, fun j h => setAll_out h⟩
      · cases e
    | _ => cases e

/-! ### [e for x in ..] -/
open Classical in
noncomputable def compGo (tg : Tg) (mc : M Bool) (me : M SV) (en0 : En) : List D → List D → Option (List D)
  | [], acc => some acc
  | d :: r, acc => match setTg tg d en0 with
    | none => none
    | some en1 => match mc en1 with
      | .ok false en2 => if en2 = en1 then compGo tg mc me en0 r acc else none
      | .ok true en2 => if en2 = en1 then (match mkeep me en1 with
        | .ok (.d y) en3 => if en3 = en1 ∧ acc.length < sizeLine then compGo tg mc me en0 r (acc ++ [y]) else none
        | _ => none) else none
      | _ => none
/-- no slot of vs has an object of its own -/
def noOwn (en : En) (vs : List Nat) : Bool := vs.all fun i => match en[i]? with
  | some (some (.own _)) => false
  | _ => true
noncomputable def mComp (tg : Tg) (vs : List Nat) (mc : M Bool) (me : M SV) (ds : List D) : M SV := fun en => if noOwn en vs then (match compGo tg mc me (wipeEn en vs) ds [] with
  | some acc => .ok (.own (.lst acc)) en
  | none => .stuck) else .stuck
/-- what holds in a comprehension's block: D0 the list that is made, as it stands -/
def Gs.blk (G : Gs) (D0 : Addr) (xs : List V) : Gs := { G with W := fun _ _ _ _ => False, B := D0 :: G.B, HB := upd G.HB D0 (.lst xs) }
section
variable {G : Gs} {H H1 : Hp} {L : List Addr} {σ : St} {en : En} {D0 : Addr} {xs : List V}
theorem RelS.toBlk (R : RelS G L σ H en) (n : H D0 = none) : RelS (G.blk D0 []) (D0 :: L) σ (upd H D0 (.lst [])) en where
  own := (R.hide n (.inl ⟨[], rfl⟩)).own
  same := (R.hide n (.inl ⟨[], rfl⟩)).same
  len := R.len
  slot := (R.hide n (.inl ⟨[], rfl⟩)).slot
  apart := R.apart
  base := fun a m => by
    rcases List.mem_cons.mp m with rfl | m
    · exact ⟨List.mem_cons_self, by rw [upd_same]; exact upd_same.symm, own_out R (R.fresh_out n)⟩
    · obtain ⟨h1, h2, h3⟩ := (R.hide (o := .lst []) n (.inl ⟨[], rfl⟩)).base a m
      have hne : a ≠ D0 := fun z => R.fresh_base n (z ▸ m)
      exact ⟨h1, h2.trans (by show G.HB a = upd G.HB D0 (.lst []) a; rw [upd_ne hne]), h3⟩
theorem RelS.ofBlk (R : RelS (G.blk D0 xs) L σ H en) (n : D0 ∉ G.B) : RelS G L σ H en where
  own := R.own
  same := R.same
  len := R.len
  slot := R.slot
  apart := R.apart
  base := fun a m => by
    obtain ⟨h1, h2, h3⟩ := R.base a (List.mem_cons_of_mem _ m)
    have hne : a ≠ D0 := fun z => n (z ▸ m)
    exact ⟨h1, h2.trans (by show upd G.HB D0 (.lst xs) a = G.HB a; rw [upd_ne hne]), h3⟩
theorem RelS.pushBlk (R : RelS (G.blk D0 xs) L σ H en) (n : D0 ∉ G.B) {ys : List V} : RelS (G.blk D0 ys) L σ (upd H D0 (.lst ys)) en := by
  obtain ⟨m, _, h3⟩ := R.base D0 List.mem_cons_self
  refine ⟨fun a ma => ?_, by rw [hid_upd m]; exact R.same, R.len, fun i sv e => ?_, R.apart, fun a ma => ?_⟩
  · by_cases ha : a = D0
    · subst ha
      exact .inl ⟨ys, upd_same⟩
    · rw [upd_ne ha]
      exact R.own a ma
  · have q := R.slot i sv e
    cases sv with
    | d dd => obtain ⟨v, e1, h⟩ := q; exact ⟨v, e1, by rw [hid_upd m]; exact h⟩
    | own b =>
      obtain ⟨c, u, e1, mc, hc, h⟩ := q
      have hne : c ≠ D0 := fun z => h3 i b e (by rw [← z]; exact e1)
      exact ⟨c, u, e1, mc, by rw [upd_ne hne]; exact hc, by rw [hid_upd m]; exact h⟩
    | bor _ => exact q
  · rcases List.mem_cons.mp ma with rfl | mb
    · exact ⟨m, by rw [upd_same]; exact upd_same.symm, h3⟩
    · obtain ⟨h1, h2, h4⟩ := R.base a ma
      have hne : a ≠ D0 := fun z => n (z ▸ mb)
      refine ⟨h1, ?_, h4⟩
      rw [upd_ne hne, h2]
      show upd G.HB D0 (.lst xs) a = upd G.HB D0 (.lst ys) a
      rw [upd_ne hne, upd_ne hne]
end
section
variable {G : Gs} {J : It} {tg : Tg} {mc : M Bool} {me : M SV} {ds : List D} {H : Hp} {L : List Addr} {σ : St} {en : En} {Q : VK} {vs : List Nat} {tt : TT} {te : TE}
theorem comp_run {ok : Hp → List Addr → Prop} (W : Walks G.K J ok ds) (R : RelS G L σ H en) (q : PostE G σ H L (mComp tg vs mc me ds en) Q) (hsub : ∀ j ∈ tg.slots, j ∈ vs)
    (k : ∀ (G' : Gs) H' L', G'.K = G.K → RelS G' L' (wipe σ vs) H' (wipeEn en vs) → Same (hid H L) (hid H' L') → ok H' L')
    (ht : ∀ (D0 : Addr) (xs : List V) (σ' : St) (H' : Hp) Q, tT (G.blk D0 xs) mc σ' H' Q → tt σ' H' Q) (he : ∀ (D0 : Addr) (xs : List V) (σ' : St) (H' : Hp) Q, tE (G.blk D0 xs) (mkeep me) σ' H' Q → te σ' H' Q) :
    ∀ D0, H D0 = none → ∃ W : Nat → Nat → Hp → Prop, (∃ m, W 0 m (upd H D0 (.lst []))) ∧ ∀ i m H, W i m H →
      (J.stop i H ∧ Q (.ref D0) H) ∨ (J.go i H ∧ ∃ Nx : Hp → Prop, (∀ H', Nx H' → ∃ m', m' < m ∧ W (i + 1) m' H') ∧ ∀ x H', J.yld i H x H' → gOf G.K tg x (wipe σ vs) H' fun σ2 H2 => wipe σ2 vs = wipe σ vs ∧ tt σ2 H2 fun b H3 =>
        if b = true then te σ2 H3 fun y H4 => ∃ acc, H4 D0 = some (.lst acc) ∧ acc.length < sizeLine ∧ Nx (upd H4 D0 (.lst (acc ++ [y]))) else Nx H3) := by
  intro D0 nD
  have nB : D0 ∉ G.B := R.fresh_base nD
  have hw := (R.wipe vs)
  unfold mComp at q
  split at q
  · rename_i hno
    cases ec : compGo tg mc me (wipeEn en vs) ds [] with
    | none => rw [ec] at q; exact q.elim
    | some fin =>
      rw [ec] at q
      dsimp only at q
      let Inv : Nat → Nat → Hp → Prop := fun i m H' => i + m = ds.length ∧ ∃ (L' : List Addr) (acc : List D) (xs : List V), RelS (G.blk D0 xs) L' (wipe σ vs) H' (wipeEn en vs) ∧ Same (hid H L) (hid H' L') ∧ DqAll G.K (hid H' L') xs acc ∧
        compGo tg mc me (wipeEn en vs) (ds.drop i) acc = some fin
      refine ⟨Inv, ⟨ds.length, by omega, D0 :: L, [], [], hw.toBlk nD, hid_new nD, .nil, ec⟩, ?_⟩
      rintro i m H1 ⟨hm, L1, acc, xs, R1, s1, hacc, e1⟩
      have hD : H1 D0 = some (.lst xs) := (R1.base D0 List.mem_cons_self).2.1.trans upd_same
      have mD : D0 ∈ L1 := (R1.base D0 List.mem_cons_self).1
      have hok := k (G.blk D0 xs) H1 L1 rfl R1 s1
      by_cases hi : i < ds.length
      · obtain ⟨d, hd⟩ : ∃ d, ds[i]? = some d := ⟨ds[i], List.getElem?_eq_getElem hi⟩
        have hdrop : ds.drop i = d :: ds.drop (i + 1) := by
          rw [List.drop_eq_getElem_cons hi]
          rw [List.getElem?_eq_getElem hi] at hd
          cases hd
          rfl
        rw [hdrop] at e1
        unfold compGo at e1
        refine .inr ⟨W.go i H1 L1 hok hi, fun H' => ∃ (L' : List Addr) (acc : List D) (xs : List V), RelS (G.blk D0 xs) L' (wipe σ vs) H' (wipeEn en vs) ∧ Same (hid H L) (hid H' L') ∧ DqAll G.K (hid H' L') xs acc ∧
          compGo tg mc me (wipeEn en vs) (ds.drop (i + 1)) acc = some fin, fun H' n => ⟨m - 1, by omega, by omega, n⟩, fun x H2 hy => ?_⟩
        obtain ⟨s2, hx⟩ := W.yld i H1 L1 x H2 d hok hd hy R1.own
        have R2 := R1.grow s2
        cases e2 : setTg tg d (wipeEn en vs) with
        | none => rw [e2] at e1; cases e1
        | some en1 =>
          rw [e2] at e1
          dsimp only at e1
          obtain ⟨hl1, ho1⟩ := setTg_out e2
          refine g_run (G := G.blk D0 xs) R2 hx e2 fun σ2 R3 k3 => ?_
          have hwσ : wipe σ2 vs = wipe σ vs := by
            have := wipe_same (σ := wipe σ vs) (σ' := σ2) (vs := vs) (by rw [R2.len, R3.len, hl1]) fun j hj => k3 j fun z => hj (hsub j z)
            rw [this]
            exact wipe_same (by rw [wipe_length]) fun j hj => wipe_keeps σ vs j hj
          have hwe : wipeEn en1 vs = wipeEn en vs := by
            rw [wipeEn_same (en := wipeEn en vs) (en' := en1) hl1.symm fun j hj => ho1 j fun z => hj (hsub j z)]
            exact wipeEn_same (by rw [wipeEn_len]) fun j hj => wipeEn_out en hj
          have back : ∀ {xs' : List V} {L' : List Addr} {H' : Hp}, RelS (G.blk D0 xs') L' σ2 H' en1 → RelS (G.blk D0 xs') L' (wipe σ vs) H' (wipeEn en vs) := fun r => by
            have z := r.wipe vs
            rw [hwσ, hwe] at z
            exact z
          refine ⟨hwσ, ht D0 xs σ2 H2 _ ⟨en1, L1, R3, ?_⟩⟩
          have s12 : Same (hid H1 L1) (hid H2 L1) := hid_mono s2
          cases e3 : mc en1 with
          | stuck => rw [e3] at e1; cases e1
          | exc _ _ => rw [e3] at e1; cases e1
          | ok b en2 =>
            rw [e3] at e1
            intro H3 L3 R4 s3
            cases b with
            | false =>
              dsimp only at e1
              split at e1
              · rename_i he2
                subst he2
                rw [if_neg Bool.false_ne_true]
                exact ⟨L3, acc, xs, back R4, s1.trans (s12.trans s3), DqAll.mono (s12.trans s3) _ hacc, e1⟩
              · cases e1
            | true =>
              dsimp only at e1
              split at e1
              · rename_i he2
                subst he2
                rw [if_pos rfl]
                refine he D0 xs σ2 H3 _ ⟨en2, L3, R4, ?_⟩
                cases e4 : mkeep me en2 with
                | stuck => rw [e4] at e1; cases e1
                | exc _ _ => rw [e4] at e1; cases e1
                | ok sv en3 =>
                  rw [e4] at e1
                  cases sv with
                  | own _ => cases e1
                  | bor _ => cases e1
                  | d y =>
                    dsimp only at e1
                    split at e1
                    · rename_i hc
                      obtain ⟨he3, hlen⟩ := hc
                      subst he3
                      intro v H4 L4 R5 s4 hv
                      have hD4 : H4 D0 = some (.lst xs) := (R5.base D0 List.mem_cons_self).2.1.trans upd_same
                      have mD4 : D0 ∈ L4 := (R5.base D0 List.mem_cons_self).1
                      have st : Same (hid H1 L1) (hid H4 L4) := s12.trans (s3.trans s4)
                      refine ⟨xs, hD4, by rw [hacc.length]; exact hlen, L4, acc ++ [y], xs ++ [v], (back R5).pushBlk nB, by rw [hid_upd mD4]; exact s1.trans st, ?_, e1⟩
                      rw [hid_upd mD4]
                      exact (DqAll.mono st _ hacc).append (.cons hv .nil)
                    · cases e1
              · cases e1
      · have hi' : i = ds.length := by omega
        have hdrop : ds.drop i = [] := List.drop_eq_nil_of_le (by omega)
        rw [hdrop] at e1
        cases e1
        refine .inl ⟨W.stop i H1 L1 hok hi', ?_⟩
        have hbase := (R1.base D0 List.mem_cons_self).2.2
        have R2 : RelS G L1 (wipe σ vs) H1 (wipeEn en vs) := R1.ofBlk nB
        have nown : ∀ (j : Nat) (c : OB), en[j]? = some (some (SV.own c)) → j ∉ vs := fun j c ej mj => by
          have z := List.all_eq_true.mp hno j mj
          simp only [ej] at z
          cases z
        have R3 : RelS G L1 σ H1 en := by
          refine ⟨R2.own, R2.same, R.len, fun j sv ej => ?_, R.apart, fun a ma => ?_⟩
          · by_cases mj : j ∈ vs
            · have z := R.slot j sv ej
              cases sv with
              | d dd => obtain ⟨v, q1, q2⟩ := z; exact ⟨v, q1, Dq.mono s1 _ q2⟩
              | own c => exact absurd mj (nown j c ej)
              | bor _ => exact z
            · have z := R2.slot j sv (by rw [wipeEn_out _ mj]; exact ej)
              rw [wipe_keeps σ vs j mj] at z
              exact z
          · obtain ⟨h1, h2, h3⟩ := R2.base a ma
            refine ⟨h1, h2, fun j c ej => ?_⟩
            have mj := nown j c ej
            have z := h3 j c (by rw [wipeEn_out _ mj]; exact ej)
            rw [wipe_keeps σ vs j mj] at z
            exact z
        refine q _ H1 L1 R3 s1 ⟨D0, .lst xs, rfl, mD, nB, hD, hacc, fun j c ej => ?_⟩
        have mj := nown j c ej
        have z := hbase j c (by rw [wipeEn_out _ mj]; exact ej)
        rw [wipe_keeps σ vs j mj] at z
        exact z
  · exact q.elim
end
/-- over a list, a tuple, a text -/
noncomputable def mLc (tg : Tg) (vs : List Nat) (mi : M SV) (mc : M Bool) (me : M SV) : M SV := mbind (mfrz mi) fun sv en => match sv with
  | .d (.list ds) => mComp tg vs mc me ds en
  | .d (.tuple ds) => mComp tg vs mc me ds en
  | .d (.str z) => mComp tg vs mc me (signs z) en
  | .bor i => (match en[i]? with
    | some (some (.own (.lst ds))) => if vs.contains i then .stuck else mComp tg vs mc me ds en
    | _ => .stuck)
  | _ => .stuck
noncomputable def mLcR (tg : Tg) (vs : List Nat) (mas : M (List SV)) (mc : M Bool) (me : M SV) : M SV := mbind mas fun svs en => match looks en svs with
  | some [.int j] => if -(2 ^ 62) ≤ j ∧ j < 2 ^ 62 then mComp tg vs mc me (rngD 0 j.toNat) en else .stuck
  | _ => .stuck
section
variable {X : Cx} {G : Gs} {elt t iter : Expr} {ifs : List Expr} {scope : Scope} {own : List (Str × Nat)} {mi me : M SV} {mc : M Bool} {tg : Tg} {pos : Pos} {tt : TT} {te : TE}
theorem lc_imp (hsub : ∀ j ∈ tg.slots, j ∈ own.map (·.2)) (ht : ∀ (D0 : Addr) (xs : List V) (σ' : St) (H' : Hp) Q, tT (G.blk D0 xs) mc σ' H' Q → tt σ' H' Q) (he : ∀ (D0 : Addr) (xs : List V) (σ' : St) (H' : Hp) Q, tE (G.blk D0 xs) (mkeep me) σ' H' Q → te σ' H' Q)
    (σ : St) (H : Hp) (Q : VK) (h : tE G (mLc tg (own.map (·.2)) mi mc me) σ H Q) : tLc (iAny G.K (tE G (mfrz mi))) (gOf G.K tg) tt te (own.map (·.2)) σ H Q := by
  obtain ⟨en, L, R, q⟩ := h
  refine (seqE R q).mono fun v H1 ⟨en1, L1, sv, R1, s1, r1, q1⟩ => ?_
  cases sv with
  | own _ => exact q1.elim
  | bor i =>
    obtain ⟨e1, b, e2⟩ := r1
    simp only [e2] at q1
    cases b with
    | dct _ => exact q1.elim
    | lst ds =>
      dsimp only at q1
      split at q1
      · exact q1.elim
      · rename_i hni
        obtain ⟨a, xs, e3, ma, ho, hr⟩ := slot_lst R1 e2
        rw [e1] at e3
        cases e3
        have mi' : i ∉ own.map (·.2) := fun z => hni (List.contains_iff_mem.mpr z)
        refine .inl ⟨a, xs, rfl, .of ho, comp_run walks_list R1 q1 hsub (fun G' H' L' hK R' s' => ?_) ht he⟩
        obtain ⟨a', xs', e4, _, ho', hr'⟩ := slot_lst R' (i := i) (ds := ds) (by rw [wipeEn_out _ mi']; exact e2)
        rw [wipe_keeps σ _ i mi', e1] at e4
        cases e4
        rw [hK] at hr'
        exact ⟨xs', ho', hr'⟩
  | d d =>
    cases d with
    | list ds =>
      cases r1 with
      | lst hs ha => exact .inl ⟨_, _, rfl, .of (hid_same _ _ hs), comp_run walks_list R1 q1 hsub (fun G' H' L' hK R' s' => ⟨_, hid_same _ _ (s' _ _ hs), DqAll.mono s' _ ha⟩) ht he⟩
    | tuple ds =>
      cases r1 with
      | tup hs ha => exact .inr (.inl ⟨_, _, rfl, sqT_mono hid_same hs, comp_run walks_tup R1 q1 hsub (fun G' H' L' hK R' s' => ⟨_, sqT_mono hid_same (sqT_mono s' hs), DqAll.mono s' _ ha⟩) ht he⟩)
    | str z =>
      cases r1
      exact .inr (.inr ⟨z, rfl, comp_run walks_str R1 q1 hsub (fun _ _ _ _ _ _ => trivial) ht he⟩)
    | _ => exact q1.elim
theorem lcR_imp (hsub : ∀ j ∈ tg.slots, j ∈ own.map (·.2)) (ht : ∀ (D0 : Addr) (xs : List V) (σ' : St) (H' : Hp) Q, tT (G.blk D0 xs) mc σ' H' Q → tt σ' H' Q) (he : ∀ (D0 : Addr) (xs : List V) (σ' : St) (H' : Hp) Q, tE (G.blk D0 xs) (mkeep me) σ' H' Q → te σ' H' Q)
    {mas : M (List SV)} (σ : St) (H : Hp) (Q : VK) (h : tE G (mLcR tg (own.map (·.2)) mas mc me) σ H Q) : tLc (iRng1 (tA G mas)) (gOf G.K tg) tt te (own.map (·.2)) σ H Q := by
  obtain ⟨en, L, R, q⟩ := h
  refine (seqAE R q).mono fun vs H1 ⟨en1, L1, svs, R1, s1, r1, q1⟩ => ?_
  cases e : looks en1 svs with
  | none => simp only [e] at q1; exact q1.elim
  | some ds =>
    simp only [e] at q1
    have o := RVs.opd R1 (Same.refl _) r1 e
    split at q1
    · rename_i j heq
      cases heq
      split at q1
      · rename_i hj
        cases o with
        | cons h t => cases t; exact ⟨j, by rw [h.int], hj.1, hj.2, comp_run walks_rng R1 q1 hsub (fun _ _ _ _ _ _ => trivial) ht he⟩
      · exact q1.elim
    · exact q1.elim
end
end L2

namespace L2
open PySem PySem.Spec PyProof.Rows

theorem PE.ex {ι : Sort u} {X : Cx} {e : Expr} {t : ι → TE} (h : ∀ i, PE X e (t i)) : PE X e (fun σ H Q => ∃ i, t i σ H Q) := ⟨fun pins s σ H Q I ⟨i, q⟩ => (h i).run pins s σ H Q I q⟩
theorem PTs.ex {ι : Sort u} {X : Cx} {e : List Expr} {t : ι → TT} (h : ∀ i, PTs X e (t i)) : PTs X e (fun σ H Q => ∃ i, t i σ H Q) := ⟨fun pins s σ H Q I ⟨i, q⟩ => (h i).run pins s σ H Q I q⟩
theorem PTs.imp {X : Cx} {e : List Expr} {t u : TT} (h : PTs X e t) (k : ∀ σ H Q, u σ H Q → t σ H Q) : PTs X e u := ⟨fun pins s σ H Q I q => h.run pins s σ H Q I (k _ _ _ q)⟩
def mYes : M Bool := mpure true
section
variable {X : Cx} {G : Gs}
theorem jts_nil : PTs X [] (tT G mYes) := pts_nil.imp fun σ H Q ⟨en, L, R, q⟩ => q H L R (Same.refl _)
theorem jts_one {c : Expr} {m : M Bool} (h : PT X c (tT G m)) : PTs X [c] (tT G m) := pts_one h
end
/-! ### list comprehensions -/
section
variable {X : Cx} {G : Gs} {elt t iter : Expr} {ifs : List Expr} {scope : Scope} {own : List (Str × Nat)} {mi me : M SV} {mc : M Bool} {tg : Tg} {pos : Pos}
/-- what stands in the block -/
structure InBlk (X : Cx) (G : Gs) (scope : Scope) (t elt : Expr) (ifs : List Expr) (tg : Tg) (mc : M Bool) (me : M SV) : Prop where
  g : ∀ (s : Shared) (H : Hp) (C : Addr) (cl : List (Str × Addr)) (fp : List Addr), PG (X.blk s H scope (compEnvC scope cl C X.env) fp) t (gOf X.K tg)
  c : ∀ (s : Shared) (H : Hp) (C : Addr) (cl : List (Str × Addr)) (fp : List Addr) (D0 : Addr) (xs : List V), PTs (X.blk s H scope (compEnvC scope cl C X.env) fp) ifs (tT (G.blk D0 xs) mc)
  e : ∀ (s : Shared) (H : Hp) (C : Addr) (cl : List (Str × Addr)) (fp : List Addr) (D0 : Addr) (xs : List V), PE (X.blk s H scope (compEnvC scope cl C X.env) fp) elt (tE (G.blk D0 xs) me)
abbrev exT (G : Gs) (mc : M Bool) : TT := fun σ H Q => ∃ p : Addr × List V, tT (G.blk p.1 p.2) mc σ H Q
abbrev exE (G : Gs) (me : M SV) : TE := fun σ H Q => ∃ p : Addr × List V, tE (G.blk p.1 p.2) (mkeep me) σ H Q
theorem je_lc (hc : X.calm = true) (hN : X.N.Nodup) (hK : X.K = G.K) (hi : PE X iter (tE G mi)) (ok : BlkOk X.N X.env.scope scope own) (B : InBlk X G scope t elt ifs tg mc me) (hsub : ∀ j ∈ tg.slots, j ∈ own.map (·.2))
    (hs : ∀ x, foldedSetIterable iter X.env x = pure x := by intro _; rfl) : PE X (.ListComp elt [⟨t, iter, ifs, 0⟩] scope pos) (tE G (mLc tg (own.map (·.2)) mi mc me)) :=
  (pe_lc (tt := exT G mc) (te := exE G me) hc hN (pi_any (je_frz hi)) ok B.g (fun s H C cl fp => PTs.ex fun p => B.c s H C cl fp p.1 p.2) (fun s H C cl fp => PE.ex fun p => je_keep (B.e s H C cl fp p.1 p.2)) hs).imp fun σ H Q h => by
    rw [hK]
    exact lc_imp hsub (fun D0 xs _ _ _ q => ⟨(D0, xs), q⟩) (fun D0 xs _ _ _ q => ⟨(D0, xs), q⟩) σ H Q h
theorem je_lcR {a : Expr} {mas : M (List SV)} {p pos' : Pos} (hc : X.calm = true) (hN : X.N.Nodup) (hK : X.K = G.K) (hgl : Gl X "range") (hm : X.mg "range" = none) (ha : PA X [a] (tA G mas)) (ok : BlkOk X.N X.env.scope scope own) (B : InBlk X G scope t elt ifs tg mc me) (hsub : ∀ j ∈ tg.slots, j ∈ own.map (·.2))
    (hse : starEach [a] X.env = [(false, eval a X.env)] := by rfl) (hs : ∀ x, foldedSetIterable (.Call (.Name "range" p) [a] [] pos') X.env x = pure x := by intro _; rfl) : PE X (.ListComp elt [⟨t, .Call (.Name "range" p) [a] [] pos', ifs, 0⟩] scope pos) (tE G (mLcR tg (own.map (·.2)) mas mc me)) :=
  (pe_lc (tt := exT G mc) (te := exE G me) hc hN (pi_range1 hgl hm ha hse) ok B.g (fun s H C cl fp => PTs.ex fun p => B.c s H C cl fp p.1 p.2) (fun s H C cl fp => PE.ex fun p => je_keep (B.e s H C cl fp p.1 p.2)) hs).imp fun σ H Q h => by
    rw [hK]
    exact lcR_imp hsub (fun D0 xs _ _ _ q => ⟨(D0, xs), q⟩) (fun D0 xs _ _ _ q => ⟨(D0, xs), q⟩) σ H Q h
/-- name = [..] -/
theorem js_setLc (i : Nat) {y : Str} {py spos : Pos} (hc : X.calm = true) (hN : X.N.Nodup) (hy : X.N[i]? = some y) (hyl : X.env.scope.names.lookup y = some .local) (hsw : swapsWith (.ListComp elt [⟨t, iter, ifs, 0⟩] scope pos) (some (.Name y py)) spos.line X.env = pure true) (hK : X.K = G.K) (hi : PE X iter (tE G mi))
    (ok : BlkOk X.N X.env.scope scope own) (B : InBlk X G scope t elt ifs tg mc me) (hsub : ∀ j ∈ tg.slots, j ∈ own.map (·.2))
    (hs : ∀ x, foldedSetIterable iter X.env x = pure x := by intro _; rfl) : PS X (.Assign [.Name y py] (.ListComp elt [⟨t, iter, ifs, 0⟩] scope pos) spos) (tS G [i] (mSet i (mLc tg (own.map (·.2)) mi mc me))) :=
  (ps_setLc (tt := exT G mc) (te := exE G me) hc hN hy hyl hsw (pi_any (je_frz hi)) ok B.g (fun s H C cl fp => PTs.ex fun p => B.c s H C cl fp p.1 p.2) (fun s H C cl fp => PE.ex fun p => je_keep (B.e s H C cl fp p.1 p.2)) hs).imp fun E σ H h => by
    rw [hK]
    exact lc_imp hsub (fun D0 xs _ _ _ q => ⟨(D0, xs), q⟩) (fun D0 xs _ _ _ q => ⟨(D0, xs), q⟩) σ H _ (set_imp E σ H h)
theorem js_setLcR (i : Nat) {a : Expr} {mas : M (List SV)} {p pos' : Pos} {y : Str} {py spos : Pos} (hc : X.calm = true) (hN : X.N.Nodup) (hy : X.N[i]? = some y) (hyl : X.env.scope.names.lookup y = some .local) (hsw : swapsWith (.ListComp elt [⟨t, .Call (.Name "range" p) [a] [] pos', ifs, 0⟩] scope pos) (some (.Name y py)) spos.line X.env = pure true) (hK : X.K = G.K) (hgl : Gl X "range") (hm : X.mg "range" = none) (ha : PA X [a] (tA G mas))
    (ok : BlkOk X.N X.env.scope scope own) (B : InBlk X G scope t elt ifs tg mc me) (hsub : ∀ j ∈ tg.slots, j ∈ own.map (·.2)) (hse : starEach [a] X.env = [(false, eval a X.env)] := by rfl)
    (hs : ∀ x, foldedSetIterable (.Call (.Name "range" p) [a] [] pos') X.env x = pure x := by intro _; rfl) : PS X (.Assign [.Name y py] (.ListComp elt [⟨t, .Call (.Name "range" p) [a] [] pos', ifs, 0⟩] scope pos) spos) (tS G [i] (mSet i (mLcR tg (own.map (·.2)) mas mc me))) :=
  (ps_setLc (tt := exT G mc) (te := exE G me) hc hN hy hyl hsw (pi_range1 hgl hm ha hse) ok B.g (fun s H C cl fp => PTs.ex fun p => B.c s H C cl fp p.1 p.2) (fun s H C cl fp => PE.ex fun p => je_keep (B.e s H C cl fp p.1 p.2)) hs).imp fun E σ H h => by
    rw [hK]
    exact lcR_imp hsub (fun D0 xs _ _ _ q => ⟨(D0, xs), q⟩) (fun D0 xs _ _ _ q => ⟨(D0, xs), q⟩) σ H _ (set_imp E σ H h)
end
/-! ### a op b op c -/
def mChain (f g : D → D → M SV) (ma mb mc : M SV) : M SV := mbind (mfrz ma) fun a => mbind (mfrz mb) fun b => fun en => match look en a, look en b with
  | some x, some y => (mbind (f x y) fun r => match r with
    | .d (.bool true) => mOp1 (fun z => g y z) mc
    | .d (.bool false) => mpure (.d (.bool false))
    | _ => mstuck) en
  | _, _ => .stuck
/-- the tests' own functions leave the state -/
def Quiet (f : D → D → M SV) : Prop := ∀ x y en, f x y en = .stuck ∨ ∃ d, f x y en = .ok (.d d) en
section
variable {X : Cx} {G : Gs} {a b c : Expr} {ma mb mc : M SV} {r r' : R2} {f g : D → D → M SV} {pos : Pos}
theorem chain_imp (F : Fits2 G r f) (F' : Fits2 G r' g) (hq : Quiet f) (hK : ∀ d, isFlat d = true → True) (hfl : ∀ x y en d, f x y en = .ok (.d d) en → isFlat y = true) (σ : St) (H : Hp) (Q : VK) (h : tE G (mChain f g ma mb mc) σ H Q) : tChain r r' (tE G (mfrz ma)) (tE G (mfrz mb)) (tE G (mfrz mc)) σ H Q := by
  obtain ⟨en, L, R, q⟩ := h
  refine (seqE R q).mono fun x H1 ⟨en1, L1, sv1, R1, s1, r1, q1⟩ => ?_
  refine (seqE R1 q1).mono fun y H2 ⟨en2, L2, sv2, R2, s2, r2, q2⟩ => ?_
  cases e1 : look en2 sv1 with
  | none => simp only [e1] at q2; exact q2.elim
  | some d1 =>
    cases e2 : look en2 sv2 with
    | none => simp only [e1, e2] at q2; exact q2.elim
    | some d2 =>
      simp only [e1, e2] at q2
      have o1 := RV.opd R2 s2 r1 e1
      have o2 := RV.opd R2 (Same.refl _) r2 e2
      refine F σ H2 L2 en2 x y d1 d2 _ R2 o1 o2 ?_
      rcases hq d1 d2 en2 with e3 | ⟨d, e3⟩
      · unfold mbind at q2; rw [e3] at q2; exact q2.elim
      · rw [e3]
        unfold mbind at q2
        rw [e3] at q2
        dsimp only at q2
        intro v H3 L3 R3 s3 hv
        have q3 := q2.from s3
        cases d with
        | bool k =>
          cases hv
          refine ⟨k, rfl, ?_⟩
          cases k with
          | false => exact q3 _ H3 L3 R3 (Same.refl _) (.bl false)
          | true =>
            rw [if_pos rfl]
            have hf := hfl _ _ _ _ e3
            have o2' : Dq G.K (hid H3 L3) y d2 := Dq.mono s3 _ (o2.flat hf)
            refine op1_imp (r := fun w H4 Q => r' y w H4 Q) (f := fun z => g d2 z) (ma := mc) (fun σ' H' L' en' w dw Q' R' ow q' => ?_) σ H3 Q ⟨en2, L3, R3, q3⟩
            have oy : Opd G.K H' L' y d2 := .inl (by
              have hz : ∀ {K : Kf} {H H' : Hp}, Dq K H y d2 → isFlat d2 = true → Dq K H' y d2 := fun h f => by
                cases h <;> first | (cases f; done) | constructor
              exact hz o2' hf)
            exact F' σ' H' L' en' y w d2 dw Q' R' oy ow q'
        | _ => exact q3.elim
theorem je_chain {op op' : CmpOp} (ho : OpR X (compareOp op) r) (ho' : OpR X (compareOp op') r') (F : Fits2 G r f) (F' : Fits2 G r' g) (hq : Quiet f) (hfl : ∀ x y en d, f x y en = .ok (.d d) en → isFlat y = true) (ha : PE X a (tE G ma)) (hb : PE X b (tE G mb)) (hc : PE X c (tE G mc))
    (hm : lastMarks [op, op'] [b, c] = false := by with_unfolding_all rfl) : PE X (.Compare a [op, op'] [b, c] pos) (tE G (mChain f g ma mb mc)) := (pe_chain ho ho' (je_frz ha) (je_frz hb) (je_frz hc) hm).imp (chain_imp F F' hq (fun _ _ => trivial) hfl)
theorem jt_chain {op op' : CmpOp} (ho : OpR X (compareOp op) r) (ho' : OpR X (compareOp op') r') (F : Fits2 G r f) (F' : Fits2 G r' g) (hq : Quiet f) (hfl : ∀ x y en d, f x y en = .ok (.d d) en → isFlat y = true) (ha : PE X a (tE G ma)) (hb : PE X b (tE G mb)) (hc : PE X c (tE G mc))
    (hm : lastMarks [op, op'] [b, c] = false := by with_unfolding_all rfl) : PT X (.Compare a [op, op'] [b, c] pos) (tT G (mB (mChain f g ma mb mc))) := (pt_chain ho ho' (je_frz ha) (je_frz hb) (je_frz hc) hm).imp (test_imp (chain_imp F F' hq (fun _ _ => trivial) hfl))
end
theorem quiet_of {g : D → D → Option D} {f : D → D → M SV} (h : ∀ x y, f x y = ivD (g x y)) : Quiet f := fun x y en => by
  rw [h]
  unfold ivD
  cases g x y with
  | none => exact .inl rfl
  | some d => exact .inr ⟨d, rfl⟩
theorem quiet_le : Quiet dLe := fun x y en => by
  unfold dLe
  split
  · exact .inr ⟨_, rfl⟩
  · exact .inr ⟨_, rfl⟩
  · exact .inl rfl
theorem flat_le : ∀ x y en d, dLe x y en = .ok (.d d) en → isFlat y = true := fun x y en d e => by
  unfold dLe at e
  split at e
  · rfl
  · rfl
  · cases e
theorem quiet_lt : Quiet dLt := fun x y en => by
  unfold dLt
  split
  · exact .inr ⟨_, rfl⟩
  · exact .inr ⟨_, rfl⟩
  · exact .inl rfl
theorem flat_lt : ∀ x y en d, dLt x y en = .ok (.d d) en → isFlat y = true := fun x y en d e => by
  unfold dLt at e
  split at e
  · rfl
  · rfl
  · cases e
end L2

namespace L2
open PySem PySem.Spec PyProof.Rows

/-! ### * of a list -/
def rMulL : R2 := fun x y H Q => rMulA x y H Q ∨ rRep x y H Q
theorem op_mulL {X : Cx} : OpR X (binaryOp .Mult) rMulL := op_mulA.or op_rep
def repD (ds : List D) (k : Nat) : List D := (List.replicate k ds).flatten
def dMulL : D → D → M SV
  | .list ds, .int k => if (-(2 ^ 63) ≤ k ∧ k < 2 ^ 63) ∧ ds.length * k.toNat ≤ sizeLine then mpure (.own (.lst (repD ds k.toNat))) else mstuck
  | x, y => dMulA x y
theorem DqAll.rep {K : Kf} {H : Hp} {vs : List V} {ds : List D} (h : DqAll K H vs ds) : ∀ k : Nat, DqAll K H (List.replicate k vs).flatten (List.replicate k ds).flatten
  | 0 => .nil
  | k + 1 => by
    rw [List.replicate_succ, List.replicate_succ, List.flatten_cons, List.flatten_cons]
    exact h.append (DqAll.rep h k)
section
variable {G : Gs}
theorem fit_mulL : Fits2 G rMulL dMulL := by
  intro σ H L en x y dx dy Q R ox oy q
  unfold dMulL at q
  split at q
  · rename_i ds k
    split at q
    · rename_i h
      obtain ⟨a, xs, rfl, h1, h2⟩ := ox.list
      exact .inr ⟨a, k, xs, rfl, oy.int, h1, h.1.1, h.1.2, by rw [h2.length]; exact h.2, fun p n => post_lst R n (h2.rep k.toNat) q⟩
    · exact q.elim
  · exact .inl (fit_mulA σ H L en x y _ _ Q R ox oy q)
end
/-! ### xs.insert(i, y) -/
def mInsert (i : Nat) (mk me : M SV) : M Ct := fun en => match en[i]? with
  | some (some (.own (.lst _))) => mbind (mfrz mk) (fun sk => mbind (mkeep me) fun sv en => match look en sk, sv, en[i]? with
    | some (.int k), .d d, some (some (.own (.lst ds))) => if ds.length < sizeLine ∧ 0 ≤ k ∧ k < 2 ^ 63 then .ok .nx (en.set i (some (.own (.lst (ds.take k.toNat ++ [d] ++ ds.drop k.toNat))))) else .stuck
    | _, _, _ => .stuck) en
  | _ => .stuck
section
variable {X : Cx} {G : Gs} {e e2 : Expr} {me mk : M SV} {pos : Pos}
theorem js_insert (i : Nat) {x : Str} {p apos cpos : Pos} (hK : X.K = G.K) (hN : X.N[i]? = some x) (hv : Vis X.env.scope x) (hk : PE X e (tE G mk)) (he : PE X e2 (tE G me)) (hd : (x == ("__debug__" : Str)) = false := by decide) (hcd : (x == ("__classdict__" : Str)) = false := by decide)
    (hbase : attributeBase (.Name x p) "insert" X.env (eval (.Name x p) X.env) = eval (.Name x p) X.env := by rfl)
    (hfew : ((backTo cpos (starEach [e, e2] X.env)).all (fun x => !x.1) && (backToKw cpos (keywordEach [] X.env)).all (fun x => x.1.isSome) && decide (([e, e2] : List Expr).length + ([] : List Keyword).length + (if ([] : List Keyword).isEmpty then 0 else 1) < 30)) = true := by rfl)
    (hline : (apos.endLine == cpos.line) = true := by rfl) (hse : starEach [e, e2] X.env = (false, eval e X.env) :: starEach [e2] X.env := by rfl) (hse2 : starEach [e2] X.env = (false, eval e2 X.env) :: starEach [] X.env := by rfl)
    (hpl : (backTo cpos (starEach [e2] X.env)).any (·.1) = false := by rfl)
    (hs : swapsWith (.Call (.Attribute (.Name x p) "insert" apos) [e, e2] [] cpos) none pos.line X.env = pure false := by rfl) :
    PS X (.Expr (.Call (.Attribute (.Name x p) "insert" apos) [e, e2] [] cpos) pos) (tS G [] (mInsert i mk me)) :=
  (ps_expr (pe_bm PySem.F.plainAttrs_list PySem.F.slot_list_insert PySem.F.type_list_insert mt_insert (pe_var hN hv hd hcd) (pa_cons (je_frz hk) (pa_cons (je_keep he) pa_nil hse2) hse) hbase hfew hline hse hpl) hs).imp fun E σ H h => by
    obtain ⟨en, L, R, q⟩ := h
    unfold mInsert at q
    split at q
    · rename_i ds0 e0
      obtain ⟨a, xs0, e1, m0, ho0, hr0⟩ := slot_lst R e0
      refine ⟨.ref a, e1, .inl ⟨rfl, xs0, .of ho0⟩, ?_⟩
      refine (seqES R q).mono fun k H1 ⟨en1, L1, sk, R1, s1, r1, q1⟩ => ?_
      refine (seqES R1 q1).mono fun y H2 ⟨en2, L2, sv, R2, s2, r2, q2⟩ => ?_
      split at q2
      · rename_i kk d ds ek e2'
        split at q2
        · rename_i hc
          obtain ⟨a', xs, e3, m, ho, hr⟩ := slot_lst R2 e2'
          rw [e1] at e3
          cases e3
          have ok := RV.opd R2 s2 r1 ek
          refine ⟨a, xs, kk, y, rfl, by rw [ok.int], ho, by rw [hr.length]; exact hc.1, hc.2.1, hc.2.2, ?_⟩
          exact q2 σ _ L2 (R2.put e2' e1 m (b' := .lst (ds.take kk.toNat ++ [d] ++ ds.drop kk.toNat)) (((hr.take kk.toNat).append (.cons r2 .nil)).append (hr.drop kk.toNat))) (by rw [hid_upd m]; exact Same.refl _) Keeps.refl
        · exact q2.elim
      · exact q2.elim
    · exact q.elim
end
/-! ### slices -/
def cutD (ds : List D) (lo hi : Option Int) : List D := (ds.drop (HT.sIx ds.length 0 lo)).take (HT.sIx ds.length ds.length hi - HT.sIx ds.length 0 lo)
def rSlAll (K : Kf) : V → Option Int → Option Int → Hp → VK → Prop := fun x lo hi H Q => rSlL K x lo hi H Q ∨ rSlA K x lo hi H Q ∨ rSlS x lo hi H Q
theorem sl_all {X : Cx} : SlR X (rSlAll X.K) := sl_list.or (sl_tupA.or sl_str)
def dSl : D → Option Int → Option Int → M SV
  | .list ds, lo, hi => mpure (.own (.lst (cutD ds lo hi)))
  | .tuple ds, lo, hi => mpure (.d (.tuple (cutD ds lo hi)))
  | .str z, lo, hi => if z.length ≤ sizeLine then mpure (.d (.str (cutS z lo hi))) else mstuck
  | .dict [(.none, .list ds)], lo, hi => mpure (.own (.lst (cutD ds lo hi)))
  | _, _, _ => mstuck
theorem DqAll.cut {K : Kf} {H : Hp} {vs : List V} {ds : List D} (h : DqAll K H vs ds) (lo hi : Option Int) : DqAll K H (cutV vs lo hi) (cutD ds lo hi) := by
  unfold cutV cutD
  rw [h.length]
  exact (h.drop _).take _
section
variable {G : Gs}
theorem sl_fit {σ : St} {H : Hp} {L : List Addr} {en : En} {x : V} {dx : D} {lo hi : Option Int} {Q : VK} (R : RelS G L σ H en) (ox : Opd G.K H L x dx) (q : PostE G σ H L (dSl dx lo hi en) Q) : rSlAll G.K x lo hi H Q := by
  unfold dSl at q
  split at q
  · obtain ⟨a, xs, rfl, h1, h2⟩ := ox.list'
    exact .inl ⟨a, xs, rfl, h1, fun p n => post_lst R n (h2.cut lo hi) q⟩
  · obtain ⟨a, xs, rfl, h1, h2⟩ := ox.tupleD
    refine .inr (.inl ⟨a, xs, rfl, sqT_mono hid_same h1, fun h => ?_, fun _ p n => post_tup R n (h2.cut lo hi) q⟩)
    refine post_d R (.tup h1 ?_) q
    have e : cutV xs lo hi = xs := by
      unfold cutV
      rw [h.1, h.2, List.drop_zero, Nat.sub_zero, List.take_length]
    have z := h2.cut lo hi
    rw [e] at z
    exact z
  · split at q
    · rename_i h
      exact .inr (.inr ⟨_, ox.str, h, post_d R (.str _) q⟩)
    · exact q.elim
  · rename_i ds
    have dqi : ∀ ns : List Int, DqAll G.K (hid H L) (ns.map V.int) (ns.map .int) := fun ns => by
      induction ns with
      | nil => exact .nil
      | cons i r ih => exact .cons (.int i) ih
    rcases ox.dct with ⟨a, ns, rfl, e2, hs⟩ | ⟨a, kvs, ks, rfl, e2, _⟩
    · injection e2 with e2 _
      injection e2 with _ e2
      injection e2 with e2
      subst e2
      exact .inl ⟨a, _, rfl, hs, fun p n => post_lst R n ((dqi ns).cut lo hi) q⟩
    · cases ks with
      | nil => cases e2
      | cons p r =>
        injection e2 with e2 _
        injection e2 with e2 _
        cases h1 : p.1 <;> (rw [h1] at e2; exact nomatch e2)
  · exact q.elim
def mSl2 (ma : M SV) (lo hi : Option (M SV)) : M SV := mbind (mfrz ma) fun a => match lo, hi with
  | none, none => fun en => match look en a with
    | some x => dSl x none none en
    | none => .stuck
  | some ml, none => mbind (mfrz ml) fun l en => match look en a, look en l with
    | some x, some (.int i) => dSl x (some i) none en
    | _, _ => .stuck
  | none, some mh => mbind (mfrz mh) fun h en => match look en a, look en h with
    | some x, some (.int j) => dSl x none (some j) en
    | _, _ => .stuck
  | some ml, some mh => mbind (mfrz ml) fun l en => match look en l with
    | some (.int i) => mbind (mfrz mh) (fun h en => match look en a, look en h with
      | some x, some (.int j) => dSl x (some i) (some j) en
      | _, _ => .stuck) en
    | _ => .stuck
variable {X : Cx} {e lo hi : Expr} {ma ml mh : M SV} {pos p2 : Pos}
theorem je_sl (hK : X.K = G.K) (he : PE X e (tE G ma)) : PE X (.Subscript e (.Slice none none none p2) pos) (tE G (mSl2 ma none none)) := (pe_slice sl_all (je_frz he) po_none po_none).imp fun σ H Q h => by
  obtain ⟨en, L, R, q⟩ := h
  refine (seqE R q).mono fun x H1 ⟨en1, L1, sv1, R1, s1, r1, q1⟩ => ?_
  rw [hK]
  cases e1 : look en1 sv1 with
  | none => simp only [e1] at q1; exact q1.elim
  | some dx =>
    simp only [e1] at q1
    exact sl_fit R1 (RV.opd R1 (Same.refl _) r1 e1) q1
theorem je_slL (hK : X.K = G.K) (he : PE X e (tE G ma)) (hl : PE X lo (tE G ml)) : PE X (.Subscript e (.Slice (some lo) none none p2) pos) (tE G (mSl2 ma (some ml) none)) := (pe_slice sl_all (je_frz he) (po_some (je_frz hl)) po_none).imp fun σ H Q h => by
  obtain ⟨en, L, R, q⟩ := h
  refine (seqE R q).mono fun x H1 ⟨en1, L1, sv1, R1, s1, r1, q1⟩ => ?_
  refine (seqE R1 q1).mono fun y H2 ⟨en2, L2, sv2, R2, s2, r2, q2⟩ => ?_
  rw [hK]
  split at q2
  · rename_i dx i e1 e2
    have oy := RV.opd R2 (Same.refl _) r2 e2
    exact ⟨i, oy.int, sl_fit R2 (RV.opd R2 s2 r1 e1) q2⟩
  · exact q2.elim
theorem je_slH (hK : X.K = G.K) (he : PE X e (tE G ma)) (hh : PE X hi (tE G mh)) : PE X (.Subscript e (.Slice none (some hi) none p2) pos) (tE G (mSl2 ma none (some mh))) := (pe_slice sl_all (je_frz he) po_none (po_some (je_frz hh))).imp fun σ H Q h => by
  obtain ⟨en, L, R, q⟩ := h
  refine (seqE R q).mono fun x H1 ⟨en1, L1, sv1, R1, s1, r1, q1⟩ => ?_
  refine (seqE R1 q1).mono fun y H2 ⟨en2, L2, sv2, R2, s2, r2, q2⟩ => ?_
  rw [hK]
  split at q2
  · rename_i dx i e1 e2
    have oy := RV.opd R2 (Same.refl _) r2 e2
    exact ⟨i, oy.int, sl_fit R2 (RV.opd R2 s2 r1 e1) q2⟩
  · exact q2.elim
theorem je_slLH (hK : X.K = G.K) (he : PE X e (tE G ma)) (hl : PE X lo (tE G ml)) (hh : PE X hi (tE G mh)) : PE X (.Subscript e (.Slice (some lo) (some hi) none p2) pos) (tE G (mSl2 ma (some ml) (some mh))) := (pe_slice sl_all (je_frz he) (po_some (je_frz hl)) (po_some (je_frz hh))).imp fun σ H Q h => by
  obtain ⟨en, L, R, q⟩ := h
  refine (seqE R q).mono fun x H1 ⟨en1, L1, sv1, R1, s1, r1, q1⟩ => ?_
  refine (seqE R1 q1).mono fun y H2 ⟨en2, L2, sv2, R2, s2, r2, q2⟩ => ?_
  split at q2
  · rename_i i e2
    have oy := RV.opd R2 (Same.refl _) r2 e2
    refine ⟨i, oy.int, ?_⟩
    refine (seqE R2 q2).mono fun z H3 ⟨en3, L3, sv3, R3, s3, r3, q3⟩ => ?_
    rw [hK]
    split at q3
    · rename_i dx j e1 e3
      have oz := RV.opd R3 (Same.refl _) r3 e3
      exact ⟨j, oz.int, sl_fit R3 (RV.opd R3 (s2.trans s3) r1 e1) q3⟩
    · exact q3.elim
  · exact q2.elim
end
/-! ### f(k = v, ..): no argument by its place -/
section
variable {X : Cx} {G : Gs} {e : Expr} {kws : List Keyword} {m : M SV} {r : M (List SV)} {nm : Option Str} {kpos : Pos}
theorem jk_nil : PK X [] (tA G mNil) := ⟨fun pos pins s σ H Q I h => pk_nil.run pos pins s σ H Q I (by
  obtain ⟨en, L, R, q⟩ := h
  exact q _ H L R (Same.refl _) .nil)⟩
theorem cons_imp (σ : St) (H : Hp) (Q : List V → Hp → Prop) (h : tA G (mCons m r) σ H Q) : tCons (tE G (mfrz m)) (tA G r) σ H Q := by
  obtain ⟨en, L, R, q⟩ := h
  refine (seqA R q).mono fun v H1 ⟨en1, L1, sv1, R1, s1, r1, q1⟩ => ?_
  refine (seqAA R1 q1).mono fun vs H2 ⟨en2, L2, svs, R2, s2, r2, q2⟩ => ?_
  by_cases hl : lentOk en2 sv1 = true
  · simp only [hl, if_true] at q2
    have n : ∀ b, sv1 ≠ .own b := fun b z => by subst z; cases hl
    refine q2 (v :: vs) H2 L2 R2 (Same.refl _) (.cons ⟨RV.later R2 s2 r1 n fun i e => ?_, n⟩ r2)
    subst e
    unfold lentOk at hl
    cases q : en2[i]? with
    | none => simp [q] at hl
    | some o => cases o with
      | none => simp [q] at hl
      | some s => cases s with
        | own b => exact ⟨b, rfl⟩
        | d _ => simp [q] at hl
        | bor _ => simp [q] at hl
  · simp only [hl] at q2
    exact q2.elim
theorem jk_cons (ha : PE X e (tE G m)) (hr : PK X kws (tA G r)) : PK X (⟨nm, e, kpos⟩ :: kws) (tA G (mCons m r)) :=
  ⟨fun pos pins s σ H Q I h => (pk_cons (je_frz ha) hr).run pos pins s σ H Q I (cons_imp σ H Q h)⟩
variable {k : Nat} {f : Addr} {fd : FuncData} {ps ks : List Str} {F : Fm} {mas : M (List SV)} {x : Str} {p pos : Pos}
/-- names in the parameters' own order -/
def KwB (K : Kf) (fd : FuncData) (ps : List Str) : Prop := ∀ (s : Shared) (us : List Value), K.In s.heap → us.length = ps.length → BindsTo s fd ⟨[], ps.zip us⟩ (ps.zip us)
theorem je_callKw (hF : FnOk X.prog X.w X.K X.mg X.base (L2N.CX X.prog X.w) k f fd ps (spF G.K G.mg ps.length F)) (hr : Room k X.A) (tk : L2N.Takes X G.W) (hg : Gl X x) (hm : X.mg x = some (.ref f)) (hk : PySem.W.keepIn X.K (.ref f) = true) (hb : KwB X.K fd ps)
    (hn : ArgN mas ps.length) (hkw : PK X kws (tA G mas)) (hall : (backToKw pos (keywordEach kws X.env)).all (·.1.isSome) = true := by rfl) (hks : (backToKw pos (keywordEach kws X.env)).filterMap (·.1) = ps := by rfl) (hdb : (x == ("__debug__" : Str)) = false := by decide)
    (hpl : ((backTo pos (starEach [] X.env)).any (·.1) || (backToKw pos (keywordEach kws X.env)).any (·.1.isNone)) = false := by rfl) :
    PE X (.Call (.Name x p) [] kws pos) (tE G (mCall F mas)) := by
  refine ⟨fun pins s σ H Q I h => ?_⟩
  refine wpAny_Call_Name_kw (ld_glob I hg hm ?_ hdb)
  refine PySem.W.callWith_KW0 (h₀ := X.base) I.ok.mod.kin hk hall ?_ hpl
  have h' : tCallS (spF G.K G.mg ps.length F) (WE G.W) (tA G mas) σ H Q := call_imp hn σ H Q h
  refine thn (hkw.run pos pins s σ H _ I h') fun ws s2 ⟨zs, H2, I2, rz, q2⟩ => ⟨I2.kIn, ?_⟩
  rw [hks]
  have hl : ws.length = ps.length := by rw [← rz.length]; exact q2.1
  refine wpAny_call (codeAny_mono (hF.run X.A X.stack s2 H2 ⟨[], ps.zip ws⟩ ws zs Q (WE G.W σ) hr I2.env0 (hb s2 ws I2.kIn hl) rz q2) fun r s' hq => ?_)
  cases r with
  | error er => exact (L2N.passAt tk σ) pins H2 s2 er s' I2 hq
  | ok fl =>
    cases fl with
    | ret u => exact I2.after hq
    | next => exact False.elim hq
    | brk => exact False.elim hq
    | cont => exact False.elim hq
end
end L2

namespace L2
open PySem PySem.Spec PyProof.Rows

/-! ### an exception with an own __init__, made where nothing is handled -/
section
variable {X : Cx} {e : Expr} {es : List Expr} {ta : TA} {p pos : Pos} {CX : CXT} {x : Str} {C fI : Addr} {k : Nat} {fd : FuncData} {ps : List Str} {sp : Sp}
theorem mkN (T : OexC X.K C)
    (iC : W.findIn X.K (.ref C) "__init__" = some (some (.ref fI))) (tI : W.typeIn X.K (.ref fI) = some (.type "function"))
    (F1 : FnOk X.prog X.w X.K X.mg X.base CX k fI fd ps sp) (hr : Room (k + 1) X.A) (hb : Binds X.K fd ps []) (hx : Passes CX X fun _ _ _ => False)
    (hg : Gl X x) (hm : X.mg x = some (.ref C)) (ha : PA X (e :: es) ta) (hdb : (x == ("__debug__" : Str)) = false := by decide)
    (he : starEach (e :: es) X.env = (false, eval e X.env) :: starEach es X.env := by rfl) (hpl : (backTo pos (starEach es X.env)).any (·.1) = false := by rfl) :
    L2N.PMk X (.Call (.Name x p) (e :: es) [] pos) (tMkO C sp [] ta) := by
  intro pins s σ H Q I h
  obtain ⟨nm, q, N, bs, bm, sn, sub, ab, col, dd, k0, k1, k2, k3, k5, hC, hbm⟩ := T.cls
  refine wpAny_Call_Name_kw (ld_glob I hg hm ?_ hdb)
  refine W.callWith_K (h₀ := X.base) I.ok.mod.kin T.kC ?_ he hpl
  refine thn (ha.run pos pins s σ H _ I h) fun us s1 hh => ?_
  obtain ⟨vs, H1, I1, r1, hl, q1⟩ := hh
  refine ⟨I1.kIn, ?_⟩
  obtain ⟨hp, g, dr, tk, os⟩ := s1
  have fr : H1 (hp.objs.size + 1) = none := I1.hok.fresh (Nat.le_succ _)
  have kk : ∀ b o, hp.get? b = some o → ((hp.push (W.kdv_tup us)).push (HandSPX.excO C hp.objs.size)).get? b = some o := fun b o z => Heap.get?_push_of_some _ (Heap.get?_push_of_some _ z)
  have hget : ((hp.push (W.kdv_tup us)).push (HandSPX.excO C hp.objs.size)).get? (hp.objs.size + 1) = some (HandSPX.excO C hp.objs.size) := by heap_get
  have I2 := I1.laid (t' := tk) kk (Nat.le_succ _) (exo_ok hget)
  have hq := q1 _ fr
  have hul : us.length = vs.length := (Paired.length r1).symm
  have hus : us.length ≤ sizeLine := by
    rw [sizeLine_eq, hul]
    omega
  have hpl2 : (Value.ref (hp.objs.size + 1) :: us ++ []).length = ps.length := by
    have z := F1.len _ _ _ _ hq
    simp only [List.length_cons, List.length_append, List.length_nil, Nat.add_zero] at z ⊢
    omega
  have b2 := hb ⟨(hp.push (W.kdv_tup us)).push (HandSPX.excO C hp.objs.size), g, dr, tk, os⟩ (.ref (hp.objs.size + 1) :: us) I2.kIn hpl2
  rw [List.append_nil] at b2 hq
  refine wpAny_call (HandSPX.call_own F.excBase_ValueError (fun Y => HandSPX.refsVE_contains Y bm hbm) (I1.kIn _ _ hC) (W.looks_findIn I1.kIn iC) (fun self => W.bind_fn I1.kIn self tI) hus ?_)
  refine codeAny_mono (F1.run _ X.stack ⟨(hp.push (W.kdv_tup us)).push (HandSPX.excO C hp.objs.size), g, dr, tk, os⟩ _ ⟨.ref (hp.objs.size + 1) :: us, []⟩ (.ref (hp.objs.size + 1) :: us) (V.ref (hp.objs.size + 1) :: vs) _ _ (hr.make C us []) (I2.env0.make C us []) b2 (.cons (by exact rfl) r1) hq) ?_
  intro r s' hq'
  cases r with
  | error er => exact hx pins σ _ _ er s' I2 hq'
  | ok fl =>
    cases fl with
    | next => exact False.elim hq'
    | brk => exact False.elim hq'
    | cont => exact False.elim hq'
    | ret u =>
      obtain ⟨v, H2, os2, bare2, un2, hok2, rv, ev, d, fs, ea, ed, hd1, q2⟩ := hq'
      subst ev
      obtain ⟨h2, g2, d2, t2, os'⟩ := s'
      obtain ⟨t0, G, J, kG, ge, hoe, na⟩ := mk_end0 (g2 := g2) (d2 := d2) (t2 := t2) I1 (Nat.le_succ _) kk un2 hok2 os2 bare2 ea ed hd1
      refine ⟨rv, hp.objs.size + 1, _, _, ⟨G, g2, d2, t2, os'⟩, _, .ref C, some d, rfl, J, kG, ge, hoe, ⟨rfl, rfl, fun vs hv => ?_⟩, rfl, rfl, na, rfl, bare2, raises_own T.exC T.tyC, q2⟩
      cases hv
      rfl
end
/-! ### the __init__ of an exception: its fields, one or two -/
def spI (C : Addr) (nms : List Str) : Sp := fun vs H Q _ => ∃ (a : Addr) (xs : List V), vs = .ref a :: xs ∧ xs.length = nms.length ∧ H a = some (exo a C none) ∧
  ∀ (d : Addr) (H' : Hp), H d = none → d ≠ a → H' a = some (exo a C (some d)) → H' d = some (exd d (nms.zip xs).reverse) → (∀ b, b ≠ a → b ≠ d → H' b = H b) → Q .non H'
section
variable {P : Program} {w : World} {K : Kf} {mg : Str → Option Value} {base : Heap} {x qual : Str} {st : Stmt} {f C : Addr} {fd : FuncData} {N ps : List Str} {k : Nat}
theorem ok_init1 {n1 : Str} (F : Fun K x qual st f fd) (S : FnScope N ps (defScope st)) (hN : N.length = 2) (hp : ps.length = 2) (T : OexC K C) (no : W.findIn K (.ref C) n1 = some none)
    (hb : ∀ (cdv : Value) (A : Around) (outer : List Env) (s : Shared) (H : Hp) (E : XK), PSs (cxOf (L2N.CX P w) P w K mg base N qual (defScope st) f cdv A outer s H E) (defBody st) (tOst K n1 (tVar 0) (tVar 1))) :
    FnOk P w K mg base (L2N.CX P w) (k + 1) f fd ps (spI C [n1]) := by
  refine okN F S (fun vs H Q E h => ?_) fun cdv A outer s H vs Q E hr h => ?_
  · obtain ⟨a, xs, rfl, hl, _⟩ := h
    rw [hp, List.length_cons, hl]
    rfl
  · obtain ⟨a, xs, rfl, hl, h1, h2⟩ := h
    obtain ⟨y, rfl⟩ : ∃ y, xs = [y] := by
      match xs, hl with
      | [y], _ => exact ⟨y, rfl⟩
    refine ⟨_, hb cdv A outer s H E, y, by unfold start; simp, .ref a, by unfold start; simp, a, C, rfl, T, no, .inl ⟨h1, fun d hd hne => ?_⟩⟩
    exact h2 d _ hd hne upd_same (by rw [upd_ne hne, upd_same]; rfl) fun b n1 n2 => by rw [upd_ne n1, upd_ne n2]
theorem ok_init2 {n1 n2 : Str} (F : Fun K x qual st f fd) (S : FnScope N ps (defScope st)) (hN : N.length = 3) (hp : ps.length = 3) (T : OexC K C) (no1 : W.findIn K (.ref C) n1 = some none) (no2 : W.findIn K (.ref C) n2 = some none)
    (hb : ∀ (cdv : Value) (A : Around) (outer : List Env) (s : Shared) (H : Hp) (E : XK), PSs (cxOf (L2N.CX P w) P w K mg base N qual (defScope st) f cdv A outer s H E) (defBody st) (tSeq (tOst K n1 (tVar 0) (tVar 1)) (tOst K n2 (tVar 0) (tVar 2)))) :
    FnOk P w K mg base (L2N.CX P w) (k + 1) f fd ps (spI C [n1, n2]) := by
  refine okN F S (fun vs H Q E h => ?_) fun cdv A outer s H vs Q E hr h => ?_
  · obtain ⟨a, xs, rfl, hl, _⟩ := h
    rw [hp, List.length_cons, hl]
    rfl
  · obtain ⟨a, xs, rfl, hl, h1, h2⟩ := h
    obtain ⟨y, z, rfl⟩ : ∃ y z, xs = [y, z] := by
      match xs, hl with
      | [y, z], _ => exact ⟨y, z, rfl⟩
    refine ⟨_, hb cdv A outer s H E, y, by unfold start; simp, .ref a, by unfold start; simp, a, C, rfl, T, no1, .inl ⟨h1, fun d hd hne => ?_⟩⟩
    refine ⟨z, by unfold start; simp, .ref a, by unfold start; simp, a, C, rfl, T, no2, .inr ⟨d, [(n1, y)], upd_same, by rw [upd_ne hne, upd_same], by simp, ?_⟩⟩
    exact h2 d _ hd hne (by rw [upd_ne (Ne.symm hne), upd_same]) upd_same fun b m1 m2 => by rw [upd_ne m2, upd_ne m1, upd_ne m2]
end
/-! ### raise -/
def dataOf : List SV → Option (List D)
  | [] => some []
  | .d d :: r => match dataOf r with
    | some ds => some (d :: ds)
    | none => none
  | _ => none
def mRaise (cls : Str) (nms : List Str) (mas : M (List SV)) : M Ct := mbind mas fun svs en => match dataOf svs with
  | some ds => .exc ⟨cls, (nms.zip ds).reverse⟩ en
  | none => .stuck
theorem RVs.data {G : Gs} {H : Hp} {L : List Addr} {σ : St} {en : En} : ∀ {vs : List V} {svs : List SV} {ds : List D}, RVs G L σ H en vs svs → dataOf svs = some ds → DqAll G.K (hid H L) vs ds
  | _, _, _, .nil, e => by cases e; exact .nil
  | _, .d d :: r, ds, .cons h t, e => by
    unfold dataOf at e
    cases q : dataOf r with
    | none => rw [q] at e; cases e
    | some es =>
      rw [q] at e
      cases e
      exact .cons h.1 (RVs.data t q)
  | _, .own _ :: _, _, .cons h t, e => by cases e
  | _, .bor _ :: _, _, .cons h t, e => by cases e
theorem zip_rel {K : Kf} {H : Hp} : ∀ {nms : List Str} {vs : List V} {ds : List D}, DqAll K H vs ds → Paired (fun p q => p.1 = q.1 ∧ Dq K H p.2 q.2) (nms.zip vs) (nms.zip ds)
  | [], _, _, _ => .nil
  | _ :: _, _, _, .nil => .nil
  | _ :: _, _, _, .cons h t => .cons ⟨rfl, h⟩ (zip_rel t)
theorem pairApp {α β : Type} {r : α → β → Prop} : ∀ {a c : List α} {b d : List β}, Paired r a b → Paired r c d → Paired r (a ++ c) (b ++ d)
  | _, _, _, _, .nil, h => h
  | _, _, _, _, .cons h t, g => .cons h (pairApp t g)
theorem pairRev {α β : Type} {r : α → β → Prop} : ∀ {a : List α} {b : List β}, Paired r a b → Paired r a.reverse b.reverse
  | _, _, .nil => .nil
  | _, _, .cons h t => by
    rw [List.reverse_cons, List.reverse_cons]
    exact pairApp (pairRev t) (.cons h .nil)
section
variable {X : Cx} {G : Gs} {e : Expr} {es : List Expr} {mas : M (List SV)} {p pos pos2 : Pos} {x : Str} {C fI : Addr} {k : Nat} {fd : FuncData} {ps nms : List Str}
theorem raise_imp (hn : ArgN mas nms.length) (hlen : nms.length ≤ 1000) (hm : G.mg x = some (.ref C)) (D : Ends) (σ : St) (H : Hp) (h : tS G [] (mRaise x nms mas) D σ H) :
    tMkO C (spI C nms) [] (tA G mas) σ H fun cls d H' => G.W cls d σ H' := by
  obtain ⟨en, L, R, q⟩ := h
  unfold mRaise at q
  refine ⟨en, L, R, ?_⟩
  unfold mbind at q
  cases e0 : mas en with
  | stuck => rw [e0] at q; exact q
  | exc x en' => rw [e0] at q; exact PostX.at q
  | ok svs en1 =>
    rw [e0] at q
    intro vs H1 L1 R1 s1 r1
    have q1 := q.from0 s1
    have hl : vs.length = nms.length := by rw [Paired.length r1]; exact hn _ _ _ e0
    refine ⟨by rw [hl]; exact hlen, fun a na => ⟨a, vs, by rw [List.append_nil], hl, upd_same, fun d H' hd hda ha hdd ho => ⟨rfl, d, _, ha, hdd, ?_, ?_⟩⟩⟩
    · rw [upd_ne hda] at hd
      exact hd
    · have hd1 : H1 d = none := by rw [upd_ne hda] at hd; exact hd
      have eH : upd (del H' a) d (.xd (nms.zip vs).reverse) = upd H1 d (.xd (nms.zip vs).reverse) := by
        funext b
        by_cases hb : b = d
        · subst hb; rw [upd_same, upd_same]
        · rw [upd_ne hb, upd_ne hb]
          by_cases hba : b = a
          · subst hba
            rw [na]
            exact del_same
          · rw [del_ne hba, ho b hba hb, upd_ne hba]
      rw [eH]
      dsimp only at q1
      cases e1 : dataOf svs with
      | none => rw [e1] at q1; exact q1.elim
      | some ds =>
        rw [e1] at q1
        have hds := RVs.data r1 e1
        refine q1 (.ref C) (some d) σ (upd H1 d (.xd (nms.zip vs).reverse)) L1 Keeps.refl (R1.grow (same_new hd1)) (hid_mono (same_new hd1)) ?_
        refine ⟨C, d, (nms.zip vs).reverse, hm, rfl, rfl, by rw [hid_out (R1.fresh_out hd1), upd_same], pairRev ?_⟩
        exact Paired.mapP (zip_rel hds) fun _ _ ⟨z1, z2⟩ => ⟨z1, Dq.mono (hid_mono (same_new hd1)) _ z2⟩
theorem js_raise (hc : X.calm = true) (tk : L2N.Takes X G.W) (T : OexC X.K C) (iC : W.findIn X.K (.ref C) "__init__" = some (some (.ref fI))) (tI : W.typeIn X.K (.ref fI) = some (.type "function"))
    (F1 : FnOk X.prog X.w X.K X.mg X.base (L2N.CX X.prog X.w) k fI fd ps (spI C nms)) (hr : Room (k + 1) X.A) (hb : Binds X.K fd ps []) (hmg : X.mg = G.mg) (hn : ArgN mas nms.length) (hlen : nms.length ≤ 1000) (hg : Gl X x) (hm : X.mg x = some (.ref C)) (ha : PA X (e :: es) (tA G mas)) (hdb : (x == ("__debug__" : Str)) = false := by decide)
    (he : starEach (e :: es) X.env = (false, eval e X.env) :: starEach es X.env := by rfl) (hpl : (backTo pos (starEach es X.env)).any (·.1) = false := by rfl) :
    PS X (.Raise (some (.Call (.Name x p) (e :: es) [] pos)) none pos2) (tS G [] (mRaise x nms mas)) :=
  (L2N.ps_raise hc tk (mkN T iC tI F1 hr hb (L2N.passes_call tk fun _ _ _ _ h => h.elim) hg hm ha hdb he hpl)).imp (raise_imp hn hlen (hmg ▸ hm))
end
end L2

namespace L2
open PySem PySem.Spec PyProof.Rows

/-! ### try .. except X as n -/
def noBor (en : En) : Bool := en.all fun o => match o with
  | some (.bor _) => false
  | _ => true
theorem noBor_at {en : En} (h : noBor en = true) {j k : Nat} (e : en[j]? = some (some (.bor k))) : False := by
  have z := List.all_eq_true.mp h _ (List.mem_of_getElem? e)
  cases z
/-- kn: the classes that may come, and whether each is caught -/
def mTry (kn : List (Str × Bool)) (i : Nat) (mb : M Ct) (mh : Xc → M Ct) : M Ct := fun en => match mb en with
  | .exc x en1 => (match kn.lookup x.cls with
    | some true => if noBor en1 then (match mh x (en1.set i (some (.bor 0))) with
      | .ok c en2 => if noBor (en2.set i none) then (match c with
        | .rt (.bor _) => .stuck
        | c => .ok c (en2.set i none)) else .stuck
      | _ => .stuck) else .stuck
    | some false => .exc x en1
    | none => .stuck)
  | r => r
def Gs.wish (G : Gs) (W : WX) : Gs := { G with W := W }
def Gs.held (G : Gs) (H0 : Hp) (a : Addr) : Gs := { G with W := fun _ _ _ _ => False, H0 := H0, px := some a }
section
variable {G : Gs} {H H' : Hp} {L L' : List Addr} {σ : St} {en : En} {v : V} {sv : SV} {W : WX} {H0 : Hp} {a : Addr} {i : Nat}
theorem RelS.wish (R : RelS G L σ H en) : RelS (G.wish W) L σ H en := ⟨R.own, R.same, R.len, R.slot, R.apart, R.base⟩
theorem RelS.ofWish (R : RelS (G.wish W) L σ H en) : RelS G L σ H en := ⟨R.own, R.same, R.len, R.slot, R.apart, R.base⟩
theorem RV.ofWish (h : RV (G.wish W) L σ H en v sv) : RV G L σ H en v sv := by
  cases sv <;> exact h
theorem RV.ofHeld (h : RV (G.held H0 a) L σ H en v sv) : RV G L σ H en v sv := by
  cases sv <;> exact h
theorem RelS.catch (R : RelS G L σ H en) (nb : noBor en = true) (a : Addr) (i : Nat) : RelS (G.held (hid H L) a) L (σ.set i (some (.ref a))) H (en.set i (some (.bor 0))) := by
  have key : ∀ (j : Nat) (b : OB), (en.set i (some (.bor 0)))[j]? = some (some (SV.own b)) → j ≠ i ∧ en[j]? = some (some (SV.own b)) := fun j b e => by
    by_cases hj : j = i
    · subst hj
      by_cases hl : j < en.length
      · rw [List.getElem?_set_self hl] at e
        cases e
      · rw [List.getElem?_eq_none (by rw [List.length_set]; omega)] at e
        cases e
    · rw [List.getElem?_set_ne (Ne.symm hj)] at e
      exact ⟨hj, e⟩
  refine ⟨R.own, Same.refl _, by rw [List.length_set, List.length_set]; exact R.len, fun j sv e => ?_, fun j k b c a' hjk ej ek => ?_, fun b m => ?_⟩
  · by_cases hj : j = i
    · subst hj
      have hl : j < en.length := by
        by_cases hl : j < en.length
        · exact hl
        · rw [List.getElem?_eq_none (by rw [List.length_set]; omega)] at e
          cases e
      rw [List.getElem?_set_self hl] at e
      cases e
      exact ⟨a, rfl, List.getElem?_set_self (by rw [R.len]; exact hl)⟩
    · rw [List.getElem?_set_ne (Ne.symm hj)] at e
      rw [List.getElem?_set_ne (Ne.symm hj)]
      have z := R.slot j sv e
      cases sv with
      | d d => exact z
      | own b => exact z
      | bor k => exact (noBor_at nb e).elim
  · obtain ⟨n1, e1⟩ := key j b ej
    obtain ⟨n2, e2⟩ := key k c ek
    rw [List.getElem?_set_ne (Ne.symm n1), List.getElem?_set_ne (Ne.symm n2)]
    exact R.apart j k b c a' hjk e1 e2
  · obtain ⟨h1, h2, h3⟩ := R.base b m
    refine ⟨h1, h2, fun j c e => ?_⟩
    obtain ⟨n1, e1⟩ := key j c e
    rw [List.getElem?_set_ne (Ne.symm n1)]
    exact h3 j c e1
theorem RelS.let_go (R : RelS (G.held H0 a) L σ H en) (s : Same G.H0 H0) (i : Nat) (nb : noBor (en.set i none) = true) : RelS G L (σ.set i none) H (en.set i none) := by
  have key : ∀ (j : Nat) (sv : SV), (en.set i none)[j]? = some (some sv) → j ≠ i ∧ en[j]? = some (some sv) := fun j b e => by
    by_cases hj : j = i
    · subst hj
      by_cases hl : j < en.length
      · rw [List.getElem?_set_self hl] at e
        cases e
      · rw [List.getElem?_eq_none (by rw [List.length_set]; omega)] at e
        cases e
    · rw [List.getElem?_set_ne (Ne.symm hj)] at e
      exact ⟨hj, e⟩
  refine ⟨R.own, s.trans R.same, by rw [List.length_set, List.length_set]; exact R.len, fun j sv e => ?_, fun j k b c a' hjk ej ek => ?_, fun b m => ?_⟩
  · obtain ⟨n1, e1⟩ := key j sv e
    rw [List.getElem?_set_ne (Ne.symm n1)]
    have z := R.slot j sv e1
    cases sv with
    | d d => exact z
    | own b => exact z
    | bor k => exact (noBor_at nb e).elim
  · obtain ⟨n1, e1⟩ := key j _ ej
    obtain ⟨n2, e2⟩ := key k _ ek
    rw [List.getElem?_set_ne (Ne.symm n1), List.getElem?_set_ne (Ne.symm n2)]
    exact R.apart j k b c a' hjk e1 e2
  · obtain ⟨h1, h2, h3⟩ := R.base b m
    refine ⟨h1, h2, fun j c e => ?_⟩
    obtain ⟨n1, e1⟩ := key j _ e
    rw [List.getElem?_set_ne (Ne.symm n1)]
    exact h3 j c e1
end
/-- what the suite sees -/
def tHeld (G : Gs) (wh : List Nat) (mh : Xc → M Ct) (a : Addr) (cls : Value) (d : Option Addr) : TS := fun E σ H =>
  ∃ (x : Xc) (H0 : Hp), XR G.K G.mg x cls d H0 ∧ tS (G.held H0 a) wh (mh x) E σ H
section
variable {X : Cx} {G : Gs} {wb wh : List Nat} {kn : List (Str × Bool)} {mb : M Ct} {mh : Xc → M Ct} {i : Nat} {c : Value}
theorem try_imp (hex : ∀ y b, kn.lookup y = some b → ∃ Cy, G.mg y = some (.ref Cy) ∧ W.exmOne G.K (.ref Cy) c = some b) (D : Ends) (σ : St) (H : Hp) (h : tS G (wb ++ i :: wh) (mTry kn i mb mh) D σ H) :
    tS (G.wish (wAs G.K c i (tHeld G wh mh) G.W D)) wb mb D σ H := by
  obtain ⟨en, L, R, q⟩ := h
  refine ⟨en, L, R.wish, ?_⟩
  have lw : ∀ {σ' : St}, Keeps wb σ σ' → Keeps (wb ++ i :: wh) σ σ' := fun k => k.mono fun j m => List.mem_append_left _ m
  unfold mTry at q
  cases e : mb en with
  | stuck => rw [e] at q; exact q
  | ok ct en1 =>
    rw [e] at q
    cases ct with
    | nx => exact fun σ' H' L' R' s' k' => q σ' H' L' R'.ofWish s' (lw k')
    | bk => exact fun σ' H' L' R' s' k' => q σ' H' L' R'.ofWish s' (lw k')
    | ct => exact fun σ' H' L' R' s' k' => q σ' H' L' R'.ofWish s' (lw k')
    | rt sv => exact fun v σ' H' L' R' s' r => q v σ' H' L' R'.ofWish s' r.ofWish
  | exc x en1 =>
    rw [e] at q
    dsimp only at q
    intro cls d σ' H' L' k' R' s' hx
    have R1 : RelS G L' σ' H' en1 := R'.ofWish
    obtain ⟨C, dd, fv, a1, a2, a3, a4, a5⟩ := hx
    cases ek : kn.lookup x.cls with
    | none => rw [ek] at q; exact q.elim
    | some b =>
      rw [ek] at q
      obtain ⟨Cy, g1, g2⟩ := hex _ _ ek
      have hC : Cy = C := by
        rw [show G.mg x.cls = some (.ref C) from a1] at g1
        cases g1
        rfl
      subst hC
      refine ⟨b, by rw [a2]; exact g2, fun hb a na => ?_, fun hb => ?_⟩
      · subst hb
        dsimp only at q
        split at q
        · rename_i nb
          refine ⟨x, hid H' L', ⟨Cy, dd, fv, a1, a2, a3, a4, a5⟩, _, L', R1.catch nb a i, ?_⟩
          have sH : Same G.H0 (hid H' L') := R1.same
          cases e2 : mh x (en1.set i (some (.bor 0))) with
          | stuck => rw [e2] at q; exact q
          | exc y en2 => rw [e2] at q; exact q.elim
          | ok ct en2 =>
            rw [e2] at q
            dsimp only at q
            split at q
            · rename_i nb2
              have kk : ∀ {σ'' : St}, Keeps wh (σ'.set i (some (.ref a))) σ'' → Keeps (wb ++ i :: wh) σ (σ''.set i none) := fun {σ''} k2 j hj => by
                have n1 : j ∉ wb := fun m => hj (List.mem_append_left _ m)
                have n2 : i ≠ j := fun z => hj (List.mem_append_right _ (z ▸ List.mem_cons_self))
                have n3 : j ∉ wh := fun m => hj (List.mem_append_right _ (List.mem_cons_of_mem _ m))
                rw [List.getElem?_set_ne n2, k2 j n3, List.getElem?_set_ne n2]
                exact k' j n1
              cases ct with
              | nx => exact fun σ'' H'' L'' R2 s2 k2 => q _ H'' L'' (R2.let_go sH i nb2) (s'.trans s2) (kk k2)
              | bk => exact fun σ'' H'' L'' R2 s2 k2 => q _ H'' L'' (R2.let_go sH i nb2) (s'.trans s2) (kk k2)
              | ct => exact fun σ'' H'' L'' R2 s2 k2 => q _ H'' L'' (R2.let_go sH i nb2) (s'.trans s2) (kk k2)
              | rt sv =>
                cases sv with
                | bor _ => exact q.elim
                | d d => exact fun v σ'' H'' L'' R2 s2 r => q v _ H'' L'' (R2.let_go sH i nb2) (s'.trans s2) r
                | own o =>
                  intro v σ'' H'' L'' R2 s2 r
                  obtain ⟨p, ho, r1, r2, r3, r4, r5, r6⟩ := r
                  refine q v _ H'' L'' (R2.let_go sH i nb2) (s'.trans s2) ⟨p, ho, r1, r2, r3, r4, r5, fun j c ej => ?_⟩
                  by_cases hj : j = i
                  · subst hj
                    by_cases hl : j < en2.length
                    · rw [List.getElem?_set_self hl] at ej
                      cases ej
                    · rw [List.getElem?_eq_none (by rw [List.length_set]; omega)] at ej
                      cases ej
                  · rw [List.getElem?_set_ne (Ne.symm hj)] at ej ⊢
                    exact r6 j c ej
            · exact q.elim
        · exact q.elim
      · subst hb
        dsimp only at q
        exact q cls d σ' H' L' (lw k') R1 s' ⟨Cy, dd, fv, a1, a2, a3, a4, a5⟩
theorem js_try {n x : Str} {body suite : List Stmt} {b₀ : Stmt} {np pos pos' : Pos} (hs : X.stack = X.env :: X.outer) (hf : X.env.frame = some X.env.locals) (hN : X.N.Nodup) (hi : X.N[i]? = some n) (hln : X.env.kindOf n = some .local) (hc : Names X x c) (tk : L2N.Takes X G.W) (hK : X.K = G.K)
    (hex : ∀ y b, kn.lookup y = some b → ∃ Cy, G.mg y = some (.ref Cy) ∧ W.exmOne G.K (.ref Cy) c = some b)
    (hb : ∀ (W : WX) (pn : List (Addr × Obj)) (xe : Value → Shared → Prop), L2N.Takes (X.tr pn xe) (G.wish W).W → PassesOwn (model X.prog X.w) X.A X.env xe → PSs (X.tr pn xe) body (tS (G.wish W) wb mb))
    (hh : ∀ (a : Addr) (oe : Obj) (cls : Value) (d : Option Addr) (pn : List (Addr × Obj)) (x : Xc) (H0 : Hp), L2N.Zn cls d oe → (∃ vs, oe.data = .fields vs) → XR G.K G.mg x cls d H0 → PSs (X.suite a ((a, oe) :: pn)) (b₀ :: suite) (tS (G.held H0 a) wh (mh x))) :
    PS X (.Try body [.ExceptHandler (some (.Name x np)) (some n) (b₀ :: suite) pos'] [] [] pos) (tS G (wb ++ i :: wh) (mTry kn i mb mh)) :=
  (L2N.ps_try_as (tb := fun W => tS (G.wish W) wb mb) (ts := tHeld G wh mh) (Wout := G.W) hs hf hN hi hln hc tk hb fun a oe cls d pn z f => ⟨fun pins s σ H E I q => by
    obtain ⟨x, H0, hx, q⟩ := q
    exact (hh a oe cls d pn x H0 z f hx).run pins s σ H E I q⟩).imp fun D σ H h => by
      rw [hK]
      exact try_imp hex D σ H h
end
/-! ### in the suite -/
theorem hot_suite {X : Cx} {a : Addr} {oe : Obj} {cls : Value} {d : Option Addr} {pn : List (Addr × Obj)} (z : L2N.Zn cls d oe) (f : ∃ vs, oe.data = .fields vs) : L2H.HotC (X.suite a ((a, oe) :: pn)) := by
  obtain ⟨vs, e⟩ := f
  exact ⟨(a, oe), ⟨rfl, vs, e, z.2.2 vs e⟩, List.mem_cons_self⟩
theorem takes_no {X : Cx} {W : WX} (h : ∀ cls d σ H, ¬ W cls d σ H) : L2N.Takes X W := fun u s' q => by
  obtain ⟨a, B, sI, pins, σ, H, cls, d, _, _, _, _, _, _, _, _, w⟩ := q
  exact (h _ _ _ _ w).elim
theorem takes_held {X : Cx} {G : Gs} {H0 : Hp} {a : Addr} : L2N.Takes X (G.held H0 a).W := takes_no fun _ _ _ _ h => h
/-- n.f, n the exception at hand -/
def mXf (c : Str) (i : Nat) (f : Str) (x : Xc) : M SV := fun en => if x.cls = c then (match en[i]?, x.fs.lookup f with
  | some (some (.bor _)), some d => .ok (.d d) en
  | _, _ => .stuck) else .stuck
theorem pair_lookup {K : Kf} {H : Hp} {f : Str} {d : D} : ∀ {fv : List (Str × V)} {fs : List (Str × D)}, Paired (fun p q => p.1 = q.1 ∧ Dq K H p.2 q.2) fv fs → fs.lookup f = some d → ∃ v, fv.lookup f = some v ∧ Dq K H v d
  | _, _, .nil, e => by cases e
  | (a, v) :: r, (b, w) :: t, .cons h g, e => by
    obtain ⟨h1, h2⟩ := h
    dsimp only at h1
    subst h1
    rw [List.lookup_cons] at e ⊢
    split at e
    · cases e
      exact ⟨v, rfl, h2⟩
    · exact pair_lookup g e
theorem je_xf {X : Cx} {G : Gs} {a C : Addr} {oe : Obj} {cls : Value} {d : Option Addr} {pn : List (Addr × Obj)} {H0 : Hp} {x : Xc} {c n f : Str} {p pos : Pos} (i : Nat) (T : XfC X.K C) (no : W.findIn X.K (.ref C) f = some none) (z : L2N.Zn cls d oe) (hf : ∃ vs, oe.data = .fields vs)
    (hx : XR G.K G.mg x cls d H0) (hm : G.mg c = some (.ref C)) (hN : X.N[i]? = some n) (hv : Vis X.env.scope n) (hd : (n == ("__debug__" : Str)) = false := by decide) (hcd : (n == ("__classdict__" : Str)) = false := by decide)
    (hb : attributeBase (.Name n p) f X.env (eval (.Name n p) X.env) = eval (.Name n p) X.env := by rfl) :
    PE (X.suite a ((a, oe) :: pn)) (.Attribute (.Name n p) f pos) (tE (G.held H0 a) (mXf c i f x)) :=
  (pe_xf T no ⟨z.1, z.2.1⟩ hf (pe_var (X := X.suite a ((a, oe) :: pn)) hN hv hd hcd) hb).imp fun σ H Q h => by
    obtain ⟨en, L, R, q⟩ := h
    unfold mXf at q
    split at q
    · rename_i hc
      split at q
      · rename_i k dd e1 e2
        obtain ⟨a', ea, es⟩ := R.slot i _ e1
        cases ea
        obtain ⟨C', d', fv, a1, a2, a3, a4, a5⟩ := hx
        rw [hc, hm] at a1
        cases a1
        obtain ⟨v, ev, hv⟩ := pair_lookup a5 e2
        refine ⟨.ref a, es, rfl, a2, d', fv, v, a3, hid_same _ _ (R.same _ _ a4), ev, ?_⟩
        exact q v H L R (Same.refl _) (Dq.mono R.same _ hv)
      · exact q.elim
    · exact q.elim
end L2

namespace L2
open PySem PySem.Spec PyProof.Rows

/-! ### small things -/

def dNeg : D → M SV
  | .int i => mpure (.d (.int (-i)))
  | _ => mstuck
section
variable {X : Cx} {G : Gs}
theorem fit_neg : Fits1 G (rU fun i => V.int (-i)) dNeg := fun σ H L en x dx Q R o q => by
  unfold dNeg at q
  split at q
  · rename_i i
    exact ⟨i, o.int, q _ H L R (Same.refl _) (.int _)⟩
  · exact q.elim
/-- a module's constant -/
theorem je_gl {x : Str} {v : V} {u : Value} {d : D} {pos : Pos} (hg : Gl X x) (hm : X.mg x = some u) (r : RelV v u) (hd : ∀ H, Dq G.K H v d) (hdb : (x == ("__debug__" : Str)) = false := by decide) : PE X (.Name x pos) (tE G (mC d)) := je_c (pe_glob hg hm r hdb) hd
/-- a def that is called no deeper -/
theorem fn_stuck {P : Program} {w : World} {K : Kf} {mg : Str → Option Value} {base : Heap} {CX : CXT} {k : Nat} {f : Addr} {fd : FuncData} {ps : List Str} : FnOk P w K mg base CX k f fd ps (spF K mg ps.length fun _ => .stuck) where
  len := fun vs H Q E h => h.1
  run := fun A outer s H args us vs Q E _ _ _ _ h => by
    obtain ⟨_, _, _, _, _, h⟩ := h
    exact h.elim
theorem fn_stuckH {P : Program} {w : World} {K : Kf} {mg : Str → Option Value} {base : Heap} {CX : CXT} {k : Nat} {f : Addr} {fd : FuncData} {ps : List Str} : L2H.FnH P w K mg base CX k f fd ps (spF K mg ps.length fun _ => .stuck) where
  len := fun vs H Q E h => h.1
  run := fun A outer s H args us vs Q E p _ _ _ _ _ _ h => by
    obtain ⟨_, _, _, _, _, h⟩ := h
    exact h.elim
theorem FnOk.up {P : Program} {w : World} {K : Kf} {mg : Str → Option Value} {base : Heap} {CX : CXT} {j k : Nat} {f : Addr} {fd : FuncData} {ps : List Str} {sp : Sp} (h : FnOk P w K mg base CX j f fd ps sp) (l : j ≤ k) : FnOk P w K mg base CX k f fd ps sp where
  len := h.len
  run := fun A outer s H args us vs Q E hr => h.run A outer s H args us vs Q E (hr.mono l)
end
theorem hr_65 {k : Nat} {A : Around} (h : Room k A) : A.units + 65 < cLine := by have := h.un; omega
theorem hr_64 {k : Nat} {A : Around} (h : Room k A) : A.units + 64 < cLine := by have := h.un; omega
theorem hr_1 {k : Nat} {A : Around} (h : Room k A) : A.units + 1 < cLine := by have := h.un; omega
theorem hrH_65 {k : Nat} {A : Around} (h : L2H.RoomH k A) : A.units + 65 < cLine := by have := h.un; omega
theorem hrH_64 {k : Nat} {A : Around} (h : L2H.RoomH k A) : A.units + 64 < cLine := by have := h.un; omega
theorem hrH_1 {k : Nat} {A : Around} (h : L2H.RoomH k A) : A.units + 1 < cLine := by have := h.un; omega
theorem hot_fn {CX : CXT} {P : Program} {w : World} {K : Kf} {mg : Str → Option Value} {base : Heap} {N : List Str} {qual : Str} {scope : Scope} {f : Addr} {cd : Value} {A : Around} {outer : List Env} {s : Shared} {H : Hp} {E : XK} {p : Addr × Obj} (h : L2H.Hot1 A p) : L2H.HotC (L2H.cxH CX P w K mg base N qual scope f cd A outer s H E p) :=
  ⟨p, h, List.mem_singleton.mpr rfl⟩
theorem ex_one {K : Kf} {mg : Str → Option Value} {c : Str} {C : Addr} (h : mg c = some (.ref C)) (e : W.exmOne K (.ref C) (.ref C) = some true) : ∀ y b, [(c, true)].lookup y = some b → ∃ Cy, mg y = some (.ref Cy) ∧ W.exmOne K (.ref Cy) (.ref C) = some b := fun y b q => by
  rw [List.lookup_cons] at q
  split at q
  · rename_i hy
    cases q
    have := eq_of_beq hy
    subst this
    exact ⟨C, h, e⟩
  · cases q
end L2

namespace L2
open PySem PySem.Spec PyProof.Rows

/-! ### the order of texts; the one sorted list -/
theorem ltCps_lt : ∀ a b : List Nat, ltCps a b = decide (a < b)
  | [], [] => rfl
  | [], _ :: _ => by simp [ltCps]
  | _ :: _, [] => by simp [ltCps]
  | a :: r, b :: t => by
    rw [ltCps, ltCps_lt r t]
    by_cases h : a < b
    · simp [h, List.cons_lt_cons_iff]
    · by_cases e : a = b
      · subst e
        simp [List.cons_lt_cons_iff]
      · simp [h, e, List.cons_lt_cons_iff]
def leS (a b : Str) : Bool := !ltCps b.cps.toList a.cps.toList
theorem leS_iff {a b : Str} : leS a b = true ↔ ¬ b.cps.toList < a.cps.toList := by
  unfold leS
  rw [ltCps_lt]
  simp
theorem str_ext {a b : Str} (h : a.cps.toList = b.cps.toList) : a = b := by
  cases a; cases b
  simp only [Str.mk.injEq]
  exact Array.toList_inj.mp h
theorem leS_antisymm {a b : Str} (h1 : leS a b = true) (h2 : leS b a = true) : a = b :=
  str_ext (List.le_antisymm (leS_iff.mp h1) (leS_iff.mp h2))
theorem leS_trans (a b c : Str) (h1 : leS a b = true) (h2 : leS b c = true) : leS a c = true :=
  leS_iff.mpr (List.le_trans (leS_iff.mp h1) (leS_iff.mp h2))
theorem leS_total (a b : Str) : (leS a b || leS b a) = true := by
  rcases List.le_total a.cps.toList b.cps.toList with h | h
  · simp [leS_iff.mpr h]
  · simp [leS_iff.mpr h]
theorem sortedS_pw : ∀ {xs : List Str}, sortedS xs = true → xs.Pairwise fun a b => leS a b = true
  | [], _ => .nil
  | x :: r, h => by
    have key : ∀ (r : List Str) (x : Str), risingS x r = true → (x :: r).Pairwise fun a b => leS a b = true := by
      intro r
      induction r with
      | nil => intro x _; exact List.pairwise_singleton _ _
      | cons y t ih =>
        intro x h
        rw [risingS, Bool.and_eq_true] at h
        have p := ih y h.2
        refine List.pairwise_cons.mpr ⟨fun z m => ?_, p⟩
        rcases List.mem_cons.mp m with rfl | m
        · exact h.1
        · exact leS_trans _ _ _ h.1 ((List.pairwise_cons.mp p).1 z m)
    exact key r x h
def sortStrs (xs : List Str) : List Str := xs.mergeSort leS
theorem sortStrs_pw (xs : List Str) : (sortStrs xs).Pairwise fun a b => leS a b = true := List.pairwise_mergeSort leS_trans leS_total xs
theorem sortStrs_perm (xs : List Str) : (sortStrs xs).Perm xs := List.mergeSort_perm _ _
theorem sortStrs_uniq {xs ys : List Str} (h : ys.Perm xs) (s : ys.Pairwise fun a b => leS a b = true) : ys = sortStrs xs :=
  List.Perm.eq_of_pairwise (le := fun a b => leS a b = true) (fun a b _ _ h1 h2 => leS_antisymm h1 h2) s (sortStrs_pw xs) (h.trans (sortStrs_perm xs).symm)
def sortInts (xs : List Int) : List Int := xs.mergeSort fun a b => decide (a ≤ b)
theorem sortInts_pw (xs : List Int) : (sortInts xs).Pairwise (· ≤ ·) := by
  have h := List.pairwise_mergeSort (le := fun a b : Int => decide (a ≤ b)) (fun a b c h1 h2 => by simp at *; omega) (fun a b => by simp; omega) xs
  exact h.imp fun h => by simpa using h
theorem sortInts_perm (xs : List Int) : (sortInts xs).Perm xs := List.mergeSort_perm _ _
theorem sortInts_uniq {xs ys : List Int} (h : ys.Perm xs) (s : ys.Pairwise (· ≤ ·)) : ys = sortInts xs :=
  List.Perm.eq_of_pairwise (le := (· ≤ ·)) (fun a b _ _ h1 h2 => Int.le_antisymm h1 h2) s (sortInts_pw xs) (h.trans (sortInts_perm xs).symm)
/-! ### sorted(..) -/
def strsOf : List D → Option (List Str)
  | [] => some []
  | .str x :: r => (strsOf r).map (x :: ·)
  | _ => none
def intsOf : List D → Option (List Int)
  | [] => some []
  | .int x :: r => (intsOf r).map (x :: ·)
  | _ => none
theorem strsOf_eq : ∀ {ds : List D} {xs : List Str}, strsOf ds = some xs → ds = xs.map .str
  | [], _, e => by cases e; rfl
  | .str x :: r, xs, e => by
    unfold strsOf at e
    cases q : strsOf r with
    | none => rw [q] at e; cases e
    | some ys => rw [q] at e; cases e; rw [strsOf_eq q]; rfl
  | .int _ :: _, _, e => by cases e
  | .none :: _, _, e => by cases e
  | .bool _ :: _, _, e => by cases e
  | .list _ :: _, _, e => by cases e
  | .tuple _ :: _, _, e => by cases e
  | .dict _ :: _, _, e => by cases e
theorem intsOf_eq : ∀ {ds : List D} {xs : List Int}, intsOf ds = some xs → ds = xs.map .int
  | [], _, e => by cases e; rfl
  | .int x :: r, xs, e => by
    unfold intsOf at e
    cases q : intsOf r with
    | none => rw [q] at e; cases e
    | some ys => rw [q] at e; cases e; rw [intsOf_eq q]; rfl
  | .str _ :: _, _, e => by cases e
  | .none :: _, _, e => by cases e
  | .bool _ :: _, _, e => by cases e
  | .list _ :: _, _, e => by cases e
  | .tuple _ :: _, _, e => by cases e
  | .dict _ :: _, _, e => by cases e
theorem dqAll_strs {K : Kf} {H : Hp} : ∀ {xs : List Str} {vs : List V}, DqAll K H vs (xs.map .str) → vs = xs.map .str
  | [], _, .nil => rfl
  | x :: r, _, .cons h t => by cases h; rw [dqAll_strs t]; rfl
theorem dqAll_ints {K : Kf} {H : Hp} : ∀ {xs : List Int} {vs : List V}, DqAll K H vs (xs.map .int) → vs = xs.map .int
  | [], _, .nil => rfl
  | x :: r, _, .cons h t => by cases h; rw [dqAll_ints t]; rfl
theorem strs_dq {K : Kf} {H : Hp} : ∀ xs : List Str, DqAll K H (xs.map .str) (xs.map .str)
  | [] => .nil
  | x :: r => .cons (.str x) (strs_dq r)
theorem ints_dq {K : Kf} {H : Hp} : ∀ xs : List Int, DqAll K H (xs.map .int) (xs.map .int)
  | [] => .nil
  | x :: r => .cons (.int x) (ints_dq r)
def keysOf (kds : List (D × D)) : List D := kds.map (·.1)
/-- of a list of texts or of ints, or of a dict's keys, texts -/
def sortD : D → Option (List D)
  | .list ds => (match strsOf ds with
    | some xs => if xs.length < 64 then some ((sortStrs xs).map .str) else none
    | none => (match intsOf ds with
      | some ns => some ((sortInts ns).map .int)
      | none => none))
  | .dict kds => (match strsOf (keysOf kds) with
    | some xs => if xs.length < 64 then some ((sortStrs xs).map .str) else none
    | none => none)
  | _ => none
def dSorted (d : D) : M SV := fun en => match sortD d with
  | some l => .ok (.own (.lst l)) en
  | none => .stuck
def rSortA (K : Kf) : List V → Hp → VK → Prop := fun vs H Q => rSortedS K vs H Q ∨ rSortedI K vs H Q ∨ ∃ (a : Addr) (kvs : List (Key × V)) (ks : List Str), vs = [.ref a] ∧ Rd H a (.dK kvs) ∧ kvs.map (·.1) = ks.map Sum.inr ∧ ks.length < 64 ∧ ∀ ys p, ys.Perm ks → sortedS ys = true → H p = none → Q (.ref p) (upd H p (.lst (ys.map V.str)))
theorem cr_sortA {X : Cx} (hc : X.calm = true) : CallR X (.builtin "sorted") (rSortA X.K) := cr_sortedS.or (cr_sortedI.or (call_sortedD hc))
theorem keys_strs {K : Kf} {H : Hp} : ∀ {kvs : List (Key × V)} {ks : List (Key × D)} {xs : List Str}, KD K H kvs ks → keysOf (ks.map fun p => (kD p.1, p.2)) = xs.map .str → kvs.map (·.1) = xs.map Sum.inr
  | _, _, [], .nil, _ => rfl
  | _, _, _ :: _, .nil, e => by cases e
  | _, _, [], .cons _ _, e => by cases e
  | p :: _, q :: _, x :: xs, .cons ⟨h1, h2⟩ t, e => by
    simp only [keysOf, List.map_cons, List.cons.injEq] at e
    rw [List.map_cons, List.map_cons, keys_strs t e.2]
    congr 1
    rw [h1]
    cases h : q.1 with
    | inl i => rw [h] at e; cases e.1
    | inr s => rw [h] at e; cases e.1; rfl
section
variable {G : Gs}
theorem fit_sorted : FitsC G (rSortA G.K) (d1 dSorted) := fit1 fun σ H L en x d Q R o q => by
  unfold dSorted at q
  cases e : sortD d with
  | none => rw [e] at q; exact q.elim
  | some l =>
    rw [e] at q
    dsimp only at q
    unfold sortD at e
    split at e
    · rename_i ds
      obtain ⟨a, ys, rfl, ho, hr⟩ := o.list'
      split at e
      · rename_i xs e1
        have e2 := strsOf_eq e1
        subst e2
        have e3 := dqAll_strs hr
        subst e3
        split at e
        · rename_i hl
          cases e
          refine .inl ⟨a, xs, rfl, ho, hl, fun zs p hp hs hn => ?_⟩
          rw [sortStrs_uniq hp (sortedS_pw hs)]
          exact post_lst R hn (strs_dq _) q
        · cases e
      · split at e
        · rename_i ns e1
          cases e
          have e2 := intsOf_eq e1
          subst e2
          have e3 := dqAll_ints hr
          subst e3
          refine .inr (.inl ⟨a, ns, rfl, ho, fun zs p hp hs hn => ?_⟩)
          rw [sortInts_uniq hp hs]
          exact post_lst R hn (ints_dq _) q
        · cases e
    · rename_i kds
      split at e
      · rename_i xs e1
        have e2 := strsOf_eq e1
        split at e
        · rename_i hl
          cases e
          rcases o.dct with ⟨a, ns, rfl, e3, hs⟩ | ⟨a, kvs, ks, rfl, e3, ho, hk⟩
          · subst e3
            cases xs with
            | nil => cases e2
            | cons x r => cases e2
          · subst e3
            refine .inr (.inr ⟨a, kvs, xs, rfl, .inl ho, keys_strs hk e2, hl, fun zs p hp hs hn => ?_⟩)
            rw [sortStrs_uniq hp (sortedS_pw hs)]
            exact post_lst R hn (strs_dq _) q
        · cases e
      · cases e
    · cases e
end
end L2

namespace L2
open PySem PySem.Spec PyProof.Rows

/-! ### dicts -/
def putD (kds : List (Key × D)) (k : Key) (d : D) : List (Key × D) :=
  if (kds.any fun kv => decide (kv.1 = k)) = true then kds.map fun kv => if kv.1 = k then (kv.1, d) else kv else kds ++ [(k, d)]
def valD (kds : List (Key × D)) (k : Key) : Option D := (kds.find? fun kv => decide (kv.1 = k)).map (·.2)
theorem KD.any {K : Kf} {H : Hp} {k : Key} : ∀ {kvs : List (Key × V)} {kds : List (Key × D)}, KD K H kvs kds → (kvs.any fun kv => decide (kv.1 = k)) = (kds.any fun kv => decide (kv.1 = k))
  | _, _, .nil => rfl
  | _, _, .cons ⟨h1, _⟩ t => by rw [List.any_cons, List.any_cons, KD.any t, h1]
theorem KD.length {K : Kf} {H : Hp} {kvs : List (Key × V)} {kds : List (Key × D)} (h : KD K H kvs kds) : kvs.length = kds.length := Paired.length h
theorem KD.mapPut {K : Kf} {H : Hp} {k : Key} {v : V} {d : D} (hv : Dq K H v d) : ∀ {kvs : List (Key × V)} {kds : List (Key × D)}, KD K H kvs kds → KD K H (kvs.map fun kv => if kv.1 = k then (kv.1, v) else kv) (kds.map fun kv => if kv.1 = k then (kv.1, d) else kv)
  | _, _, .nil => .nil
  | a :: _, b :: _, .cons ⟨h1, h2⟩ t => by
    refine .cons ?_ (KD.mapPut hv t)
    dsimp only
    by_cases e : a.1 = k
    · rw [if_pos e, if_pos (h1 ▸ e)]
      exact ⟨h1, hv⟩
    · rw [if_neg e, if_neg (h1 ▸ e)]
      exact ⟨h1, h2⟩
theorem KD.put {K : Kf} {H : Hp} {k : Key} {v : V} {d : D} {kvs : List (Key × V)} {kds : List (Key × D)} (h : KD K H kvs kds) (hv : Dq K H v d) : KD K H (putK kvs k v) (putD kds k d) := by
  unfold putK putD
  rw [h.any (k := k)]
  split
  · exact h.mapPut hv
  · exact pairApp h (.cons ⟨rfl, hv⟩ .nil)
theorem KD.val {K : Kf} {H : Hp} {k : Key} : ∀ {kvs : List (Key × V)} {kds : List (Key × D)}, KD K H kvs kds → (valV kvs k = none ∧ valD kds k = none) ∨ ∃ v d, valV kvs k = some v ∧ valD kds k = some d ∧ Dq K H v d
  | _, _, .nil => .inl ⟨rfl, rfl⟩
  | a :: _, b :: _, .cons ⟨h1, h2⟩ t => by
    unfold valV valD
    rw [List.find?_cons, List.find?_cons]
    by_cases e : a.1 = k
    · rw [h1] at e
      simp only [h1, e, decide_true]
      exact .inr ⟨_, _, rfl, rfl, h2⟩
    · have e2 : ¬ b.1 = k := h1 ▸ e
      simp only [e, e2, decide_false]
      exact KD.val t
theorem slot_dct {G : Gs} {H : Hp} {L : List Addr} {σ : St} {en : En} {i : Nat} {kds : List (Key × D)} (R : RelS G L σ H en) (e : en[i]? = some (some (.own (.dct kds)))) : ∃ a kvs, σ[i]? = some (some (.ref a)) ∧ a ∈ L ∧ H a = some (.dK kvs) ∧ KD G.K (hid H L) kvs kds := by
  obtain ⟨a, o, e1, m, ho, hr⟩ := R.slot i _ e
  cases o with
  | dK kvs => exact ⟨a, kvs, e1, m, ho, hr⟩
  | _ => exact hr.elim
/-! d[k] = v, d in slot i -/
def mDPut (i : Nat) (mk mv : M SV) : M Ct := mbind (mkeep mv) fun sv en => match en[i]? with
  | some (some (.own (.dct _))) => mbind (mfrz mk) (fun sk en => match look en sk, sv, en[i]? with
    | some y, .d z, some (some (.own (.dct kds))) => (match keyD y with
      | some k => if kds.length < sizeLine then .ok .nx (en.set i (some (.own (.dct (putD kds k z))))) else .stuck
      | none => .stuck)
    | _, _, _ => .stuck) en
  | _ => .stuck
section
variable {X : Cx} {G : Gs} {ek ev : Expr} {mk mv : M SV} {pos pos' : Pos}
theorem js_dput (i : Nat) {x : Str} {p : Pos} (hK : X.K = G.K) (hu : X.A.units + 1 < cLine) (hN : X.N[i]? = some x) (hv : Vis X.env.scope x) (hk : PE X ek (tE G mk)) (he : PE X ev (tE G mv)) (hd : (x == ("__debug__" : Str)) = false := by decide) (hcd : (x == ("__classdict__" : Str)) = false := by decide)
    (hs : swapsWith ev (some (.Subscript (.Name x p) ek pos')) pos.line X.env = pure false := by rfl) :
    PS X (.Assign [.Subscript (.Name x p) ek pos'] ev pos) (tS G [] (mDPut i mk mv)) :=
  (ps_dput hu (pe_var hN hv hd hcd) (je_frz hk) (je_keep he) hs).imp fun D σ H h => by
    obtain ⟨en, L, R, q⟩ := h
    refine (seqES R q).mono fun v H1 ⟨en1, L1, sv, R1, s1, r1, q1⟩ => ?_
    split at q1
    · rename_i kds0 e0
      obtain ⟨a, kvs0, e1, m0, ho0, hr0⟩ := slot_dct R1 e0
      refine ⟨.ref a, e1, ?_⟩
      refine (seqES R1 q1).mono fun y H2 ⟨en2, L2, sk, R2, s2, r2, q2⟩ => ?_
      split at q2
      · rename_i dy z kds ey e2 _
        split at q2
        · rename_i k ek
          split at q2
          · rename_i hl
            obtain ⟨a', kvs, e3, m, ho, hr⟩ := slot_dct R2 e2
            rw [e1] at e3
            cases e3
            obtain ⟨rfl, _⟩ := key_of_D (RV.opd R2 (Same.refl _) r2 ey) ek
            refine ⟨a, _, rfl, DPut.k ho (by rw [hr.length]; exact hl), ?_⟩
            exact q2 σ _ L2 (R2.put e2 e1 m (b' := .dct (putD kds k z)) (hr.put (Dq.mono s2 _ r1))) (by rw [hid_upd m]; exact Same.refl _) Keeps.refl
          · exact q2.elim
        · exact q2.elim
      · exact q2.elim
    · exact q1.elim
end
/-! ### a hold: an object that nobody else changes -/
def Gs.hold (G : Gs) (a : Addr) (o : HO) : Gs := { G with B := a :: G.B, HB := upd G.HB a o }
section
variable {G : Gs} {H H1 : Hp} {L : List Addr} {σ : St} {en : En} {a : Addr} {o o' : HO} {v : V} {sv : SV}
theorem RelS.hold (R : RelS G L σ H en) (m : a ∈ L) (nb : a ∉ G.B) (ho : H a = some o) (no : ∀ (i : Nat) (c : OB), en[i]? = some (some (SV.own c)) → σ[i]? ≠ some (some (V.ref a))) : RelS (G.hold a o) L σ H en where
  own := R.own
  same := R.same
  len := R.len
  slot := R.slot
  apart := R.apart
  base := fun b mb => by
    rcases List.mem_cons.mp mb with rfl | mb
    · exact ⟨m, by rw [ho]; exact upd_same.symm, no⟩
    · obtain ⟨h1, h2, h3⟩ := R.base b mb
      have hne : b ≠ a := fun z => nb (z ▸ mb)
      exact ⟨h1, h2.trans (by show G.HB b = upd G.HB a o b; rw [upd_ne hne]), h3⟩
theorem RelS.ofHold (R : RelS (G.hold a o) L σ H en) (nb : a ∉ G.B) : RelS G L σ H en where
  own := R.own
  same := R.same
  len := R.len
  slot := R.slot
  apart := R.apart
  base := fun b mb => by
    obtain ⟨h1, h2, h3⟩ := R.base b (List.mem_cons_of_mem _ mb)
    have hne : b ≠ a := fun z => nb (z ▸ mb)
    exact ⟨h1, h2.trans (by show upd G.HB a o b = G.HB b; rw [upd_ne hne]), h3⟩
theorem RelS.held (R : RelS (G.hold a o) L σ H en) : a ∈ L ∧ H a = some o ∧ ∀ (i : Nat) (c : OB), en[i]? = some (some (SV.own c)) → σ[i]? ≠ some (some (V.ref a)) := by
  obtain ⟨h1, h2, h3⟩ := R.base a List.mem_cons_self
  exact ⟨h1, h2.trans upd_same, h3⟩
theorem RV.ofHold (h : RV (G.hold a o) L σ H en v sv) : RV G L σ H en v sv := by
  cases sv with
  | d d => exact h
  | own b =>
    obtain ⟨p, u, h1, h2, h3, h4, h5, h6⟩ := h
    exact ⟨p, u, h1, h2, fun z => h3 (List.mem_cons_of_mem _ z), h4, h5, h6⟩
  | bor i => exact h
/-- an expression under a hold, then the rest -/
theorem seqHold {ma : M SV} {f : SV → M SV} {Q : VK} (R : RelS (G.hold a o) L σ H en) (nb : a ∉ G.B) (q : PostE G σ H L (mbind ma f en) Q) :
    tE (G.hold a o) ma σ H fun x H1 => ∃ en1 L1 sv, RelS (G.hold a o) L1 σ H1 en1 ∧ Same (hid H L) (hid H1 L1) ∧ RV G L1 σ H1 en1 x sv ∧ PostE G σ H1 L1 (f sv en1) Q := by
  refine ⟨en, L, R, ?_⟩
  unfold mbind at q
  cases e : ma en with
  | ok sv en' =>
    rw [e] at q
    exact fun v H' L' a b c => ⟨en', L', sv, a, b, c.ofHold, q.from b⟩
  | exc x en' =>
    rw [e] at q
    exact fun cls d σ' H' L' h1 h2 h3 h4 => q cls d σ' H' L' h1 (h2.ofHold nb) h3 h4
  | stuck =>
    rw [e] at q
    exact q
end
/-! ### d.get(k, x) -/
def getOr (kds : List (Key × D)) (y z : D) : M SV := fun en => match keyD y with
  | some k => .ok (.d ((valD kds k).getD z)) en
  | none => .stuck
def mGet2 (mo mk mx : M SV) : M SV := mbind mo fun so en => match so with
  | .own (.dct kds) => mbind (mfrz mk) (fun sk => mbind (mkeep mx) fun sx en => match look en sk, sx with
    | some y, .d z => getOr kds y z en
    | _, _ => .stuck) en
  | .bor i => (match en[i]? with
    | some (some (.own (.dct _))) => mbind (mfrz mk) (fun sk => mbind (mkeep mx) fun sx en => match look en sk, sx, en[i]? with
      | some y, .d z, some (some (.own (.dct kds))) => getOr kds y z en
      | _, _, _ => .stuck) en
    | _ => .stuck)
  | _ => .stuck
theorem getD_dq {K : Kf} {H : Hp} {k : Key} {kvs : List (Key × V)} {kds : List (Key × D)} {w : V} {z : D} (h : KD K H kvs kds) (hw : Dq K H w z) : Dq K H ((valV kvs k).getD w) ((valD kds k).getD z) := by
  rcases h.val (k := k) with ⟨e1, e2⟩ | ⟨v, d, e1, e2, q⟩
  · rw [e1, e2]; exact hw
  · rw [e1, e2]; exact q
section
variable {X : Cx} {G : Gs} {eo ek ex : Expr} {mo mk mx : M SV} {apos cpos : Pos}
/-- the key and the other value are read under any hold -/
theorem je_get2 (hu : X.A.units + 1 < cLine) (ho : PE X eo (tE G mo)) (hk : PE X ek (tE G mk)) (hx : PE X ex (tE G mx)) (hk' : ∀ a o, PE X ek (tE (G.hold a o) mk)) (hx' : ∀ a o, PE X ex (tE (G.hold a o) mx)) (m : M2 X eo "get" apos ek ex cpos) :
    PE X (.Call (.Attribute eo "get" apos) [ek, ex] [] cpos) (tE G (mGet2 mo mk mx)) :=
  (pe_dget2 (ty := fun σ H Q => tE G (mfrz mk) σ H Q ∨ ∃ p : Addr × HO, tE (G.hold p.1 p.2) (mfrz mk) σ H Q) (tx := fun σ H Q => tE G (mkeep mx) σ H Q ∨ ∃ p : Addr × HO, tE (G.hold p.1 p.2) (mkeep mx) σ H Q) hu ho
    ⟨fun pins s σ H Q I q => q.elim (fun q => (je_frz hk).run pins s σ H Q I q) fun ⟨p, q⟩ => (je_frz (hk' p.1 p.2)).run pins s σ H Q I q⟩
    ⟨fun pins s σ H Q I q => q.elim (fun q => (je_keep hx).run pins s σ H Q I q) fun ⟨p, q⟩ => (je_keep (hx' p.1 p.2)).run pins s σ H Q I q⟩ m).imp fun σ H Q h => by
    obtain ⟨en, L, R, q⟩ := h
    refine (seqE R q).mono fun x H1 ⟨en1, L1, so, R1, s1, r1, q1⟩ => ?_
    cases so with
    | d _ => exact q1.elim
    | own b =>
      cases b with
      | lst _ => exact q1.elim
      | dct kds =>
        obtain ⟨a, o, rfl, ma, nb, ho, hr, no⟩ := r1
        cases o with
        | dK kvs =>
          refine ⟨a, rfl, .inl ⟨kvs, .inl ho⟩, .inr ⟨(a, .dK kvs), ?_⟩⟩
          have Rh := R1.hold ma nb ho no
          refine (seqHold Rh nb q1).mono fun y H2 ⟨en2, L2, sk, R2, s2, r2, q2⟩ => .inr ⟨(a, .dK kvs), ?_⟩
          refine (seqHold R2 nb q2).mono fun w H3 ⟨en3, L3, sx, R3, s3, r3, q3⟩ => ?_
          split at q3
          · rename_i dy z ey
            unfold getOr at q3
            split at q3
            · rename_i k ek
              have R3' := R3.ofHold nb
              obtain ⟨rfl, _⟩ := key_of_D (RV.opd R3' s3 r2 ey) ek
              refine ⟨_, DGet.k R3.held.2.1, ?_⟩
              exact post_d R3' (getD_dq (hr.mono (s2.trans s3)) r3) q3
            · exact q3.elim
          · exact q3.elim
        | _ => exact hr.elim
    | bor i =>
      obtain ⟨e1, b, e2⟩ := r1
      dsimp only at q1
      split at q1
      · rename_i kds0 e0
        obtain ⟨a, kvs0, e3, m0, ho0, hr0⟩ := slot_dct R1 e0
        rw [e1] at e3
        cases e3
        refine ⟨a, rfl, .inl ⟨kvs0, .inl ho0⟩, .inl ?_⟩
        refine (seqE R1 q1).mono fun y H2 ⟨en2, L2, sk, R2, s2, r2, q2⟩ => .inl ?_
        refine (seqE R2 q2).mono fun w H3 ⟨en3, L3, sx, R3, s3, r3, q3⟩ => ?_
        split at q3
        · rename_i dy z kds ey e4
          unfold getOr at q3
          split at q3
          · rename_i k ek
            obtain ⟨a', kvs, e5, m, ho, hr⟩ := slot_dct R3 e4
            rw [e1] at e5
            cases e5
            obtain ⟨rfl, _⟩ := key_of_D (RV.opd R3 s3 r2 ey) ek
            exact ⟨_, DGet.k ho, post_d R3 (getD_dq hr r3) q3⟩
          · exact q3.elim
        · exact q3.elim
      · exact q1.elim
end
end L2

namespace L2
open PySem PySem.Spec PyProof.Rows

/-! ### {k: v for x in ..} -/
open Classical in
noncomputable def dcGo (tg : Tg) (mc : M Bool) (mk mv : M SV) (en0 : En) : List D → List (Key × D) → Option (List (Key × D))
  | [], acc => some acc
  | d :: r, acc => match setTg tg d en0 with
    | none => none
    | some en1 => match mc en1 with
      | .ok false en2 => if en2 = en1 then dcGo tg mc mk mv en0 r acc else none
      | .ok true en2 => if en2 = en1 then (match mkeep mk en1 with
        | .ok (.d y) en3 => if en3 = en1 then (match mkeep mv en1 with
          | .ok (.d z) en4 => (match keyD y with
            | some k => if en4 = en1 ∧ acc.length < sizeLine then dcGo tg mc mk mv en0 r (putD acc k z) else none
            | none => none)
          | _ => none) else none
        | _ => none) else none
      | _ => none
noncomputable def mDcGo (tg : Tg) (vs : List Nat) (mc : M Bool) (mk mv : M SV) (ds : List D) : M SV := fun en => if noOwn en vs then (match dcGo tg mc mk mv (wipeEn en vs) ds [] with
  | some acc => .ok (.own (.dct acc)) en
  | none => .stuck) else .stuck
def Gs.blkD (G : Gs) (D0 : Addr) (kvs : List (Key × V)) : Gs := { G with W := fun _ _ _ _ => False, B := D0 :: G.B, HB := upd G.HB D0 (.dK kvs) }
section
variable {G : Gs} {H H1 : Hp} {L : List Addr} {σ : St} {en : En} {D0 : Addr} {kvs : List (Key × V)}
theorem RelS.toBlkD (R : RelS G L σ H en) (n : H D0 = none) : RelS (G.blkD D0 []) (D0 :: L) σ (upd H D0 (.dK [])) en where
  own := (R.hide n (.inr ⟨[], rfl⟩)).own
  same := (R.hide n (.inr ⟨[], rfl⟩)).same
  len := R.len
  slot := (R.hide n (.inr ⟨[], rfl⟩)).slot
  apart := R.apart
  base := fun a m => by
    rcases List.mem_cons.mp m with rfl | m
    · exact ⟨List.mem_cons_self, by rw [upd_same]; exact upd_same.symm, own_out R (R.fresh_out n)⟩
    · obtain ⟨h1, h2, h3⟩ := (R.hide (o := .dK []) n (.inr ⟨[], rfl⟩)).base a m
      have hne : a ≠ D0 := fun z => R.fresh_base n (z ▸ m)
      exact ⟨h1, h2.trans (by show G.HB a = upd G.HB D0 (.dK []) a; rw [upd_ne hne]), h3⟩
theorem RelS.ofBlkD (R : RelS (G.blkD D0 kvs) L σ H en) (n : D0 ∉ G.B) : RelS G L σ H en where
  own := R.own
  same := R.same
  len := R.len
  slot := R.slot
  apart := R.apart
  base := fun a m => by
    obtain ⟨h1, h2, h3⟩ := R.base a (List.mem_cons_of_mem _ m)
    have hne : a ≠ D0 := fun z => n (z ▸ m)
    exact ⟨h1, h2.trans (by show upd G.HB D0 (.dK kvs) a = G.HB a; rw [upd_ne hne]), h3⟩
theorem RelS.pushBlkD (R : RelS (G.blkD D0 kvs) L σ H en) (n : D0 ∉ G.B) {kws : List (Key × V)} : RelS (G.blkD D0 kws) L σ (upd H D0 (.dK kws)) en := by
  obtain ⟨m, _, h3⟩ := R.base D0 List.mem_cons_self
  refine ⟨fun a ma => ?_, by rw [hid_upd m]; exact R.same, R.len, fun i sv e => ?_, R.apart, fun a ma => ?_⟩
  · by_cases ha : a = D0
    · subst ha
      exact .inr ⟨kws, upd_same⟩
    · rw [upd_ne ha]
      exact R.own a ma
  · have q := R.slot i sv e
    cases sv with
    | d dd => obtain ⟨v, e1, h⟩ := q; exact ⟨v, e1, by rw [hid_upd m]; exact h⟩
    | own b =>
      obtain ⟨c, u, e1, mc, hc, h⟩ := q
      have hne : c ≠ D0 := fun z => h3 i b e (by rw [← z]; exact e1)
      exact ⟨c, u, e1, mc, by rw [upd_ne hne]; exact hc, by rw [hid_upd m]; exact h⟩
    | bor _ => exact q
  · rcases List.mem_cons.mp ma with rfl | mb
    · exact ⟨m, by rw [upd_same]; exact upd_same.symm, h3⟩
    · obtain ⟨h1, h2, h4⟩ := R.base a ma
      have hne : a ≠ D0 := fun z => n (z ▸ mb)
      refine ⟨h1, ?_, h4⟩
      rw [upd_ne hne, h2]
      show upd G.HB D0 (.dK kvs) a = upd G.HB D0 (.dK kws) a
      rw [upd_ne hne, upd_ne hne]
end
section
variable {G : Gs} {J : It} {tg : Tg} {mc : M Bool} {mk mv : M SV} {ds : List D} {H : Hp} {L : List Addr} {σ : St} {en : En} {Q : VK} {vs : List Nat} {tt : TT} {tk tv : TE}
theorem dc_run {ok : Hp → List Addr → Prop} (W : Walks G.K J ok ds) (R : RelS G L σ H en) (q : PostE G σ H L (mDcGo tg vs mc mk mv ds en) Q) (hsub : ∀ j ∈ tg.slots, j ∈ vs)
    (k : ∀ (G' : Gs) H' L', G'.K = G.K → RelS G' L' (wipe σ vs) H' (wipeEn en vs) → Same (hid H L) (hid H' L') → ok H' L')
    (ht : ∀ (D0 : Addr) (xs : List (Key × V)) (σ' : St) (H' : Hp) Q, tT (G.blkD D0 xs) mc σ' H' Q → tt σ' H' Q) (hk : ∀ (D0 : Addr) (xs : List (Key × V)) (σ' : St) (H' : Hp) Q, tE (G.blkD D0 xs) (mkeep mk) σ' H' Q → tk σ' H' Q)
    (hv : ∀ (D0 : Addr) (xs : List (Key × V)) (σ' : St) (H' : Hp) Q, tE (G.blkD D0 xs) (mkeep mv) σ' H' Q → tv σ' H' Q) :
    ∀ D0, H D0 = none → ∃ W : Nat → Nat → Hp → Prop, (∃ m, W 0 m (upd H D0 (.dK []))) ∧ ∀ i m H, W i m H →
      (J.stop i H ∧ Q (.ref D0) H) ∨ (J.go i H ∧ ∃ Nx : Hp → Prop, (∀ H', Nx H' → ∃ m', m' < m ∧ W (i + 1) m' H') ∧ ∀ x H', J.yld i H x H' → gOf G.K tg x (wipe σ vs) H' fun σ2 H2 => wipe σ2 vs = wipe σ vs ∧ tt σ2 H2 fun b H3 =>
        if b = true then tk σ2 H3 fun y H4 => tv σ2 H4 fun z H5 => ∃ kvs k, y = kV k ∧ H5 D0 = some (.dK kvs) ∧ kvs.length < sizeLine ∧ Nx (upd H5 D0 (.dK (putK kvs k z))) else Nx H3) := by
  intro D0 nD
  have nB : D0 ∉ G.B := R.fresh_base nD
  have hw := (R.wipe vs)
  unfold mDcGo at q
  split at q
  · rename_i hno
    cases ec : dcGo tg mc mk mv (wipeEn en vs) ds [] with
    | none => rw [ec] at q; exact q.elim
    | some fin =>
      rw [ec] at q
      dsimp only at q
      let Inv : Nat → Nat → Hp → Prop := fun i m H' => i + m = ds.length ∧ ∃ (L' : List Addr) (acc : List (Key × D)) (xs : List (Key × V)), RelS (G.blkD D0 xs) L' (wipe σ vs) H' (wipeEn en vs) ∧ Same (hid H L) (hid H' L') ∧ KD G.K (hid H' L') xs acc ∧
        dcGo tg mc mk mv (wipeEn en vs) (ds.drop i) acc = some fin
      refine ⟨Inv, ⟨ds.length, by omega, D0 :: L, [], [], hw.toBlkD nD, hid_new nD, .nil, ec⟩, ?_⟩
      rintro i m H1 ⟨hm, L1, acc, xs, R1, s1, hacc, e1⟩
      have hD : H1 D0 = some (.dK xs) := (R1.base D0 List.mem_cons_self).2.1.trans upd_same
      have mD : D0 ∈ L1 := (R1.base D0 List.mem_cons_self).1
      have hok := k (G.blkD D0 xs) H1 L1 rfl R1 s1
      by_cases hi : i < ds.length
      · obtain ⟨d, hd⟩ : ∃ d, ds[i]? = some d := ⟨ds[i], List.getElem?_eq_getElem hi⟩
        have hdrop : ds.drop i = d :: ds.drop (i + 1) := by
          rw [List.drop_eq_getElem_cons hi]
          rw [List.getElem?_eq_getElem hi] at hd
          cases hd
          rfl
        rw [hdrop] at e1
        unfold dcGo at e1
        refine .inr ⟨W.go i H1 L1 hok hi, fun H' => ∃ (L' : List Addr) (acc : List (Key × D)) (xs : List (Key × V)), RelS (G.blkD D0 xs) L' (wipe σ vs) H' (wipeEn en vs) ∧ Same (hid H L) (hid H' L') ∧ KD G.K (hid H' L') xs acc ∧
          dcGo tg mc mk mv (wipeEn en vs) (ds.drop (i + 1)) acc = some fin, fun H' n => ⟨m - 1, by omega, by omega, n⟩, fun x H2 hy => ?_⟩
        obtain ⟨s2, hx⟩ := W.yld i H1 L1 x H2 d hok hd hy R1.own
        have R2 := R1.grow s2
        cases e2 : setTg tg d (wipeEn en vs) with
        | none => rw [e2] at e1; cases e1
        | some en1 =>
          rw [e2] at e1
          dsimp only at e1
          obtain ⟨hl1, ho1⟩ := setTg_out e2
          refine g_run (G := G.blkD D0 xs) R2 hx e2 fun σ2 R3 k3 => ?_
          have hwσ : wipe σ2 vs = wipe σ vs := by
            have := wipe_same (σ := wipe σ vs) (σ' := σ2) (vs := vs) (by rw [R2.len, R3.len, hl1]) fun j hj => k3 j fun z => hj (hsub j z)
            rw [this]
            exact wipe_same (by rw [wipe_length]) fun j hj => wipe_keeps σ vs j hj
          have hwe : wipeEn en1 vs = wipeEn en vs := by
            rw [wipeEn_same (en := wipeEn en vs) (en' := en1) hl1.symm fun j hj => ho1 j fun z => hj (hsub j z)]
            exact wipeEn_same (by rw [wipeEn_len]) fun j hj => wipeEn_out en hj
          have back : ∀ {xs' : List (Key × V)} {L' : List Addr} {H' : Hp}, RelS (G.blkD D0 xs') L' σ2 H' en1 → RelS (G.blkD D0 xs') L' (wipe σ vs) H' (wipeEn en vs) := fun r => by
            have z := r.wipe vs
            rw [hwσ, hwe] at z
            exact z
          refine ⟨hwσ, ht D0 xs σ2 H2 _ ⟨en1, L1, R3, ?_⟩⟩
          have s12 : Same (hid H1 L1) (hid H2 L1) := hid_mono s2
          cases e3 : mc en1 with
          | stuck => rw [e3] at e1; cases e1
          | exc _ _ => rw [e3] at e1; cases e1
          | ok b en2 =>
            rw [e3] at e1
            intro H3 L3 R4 s3
            cases b with
            | false =>
              dsimp only at e1
              split at e1
              · rename_i he2
                subst he2
                rw [if_neg Bool.false_ne_true]
                exact ⟨L3, acc, xs, back R4, s1.trans (s12.trans s3), hacc.mono (s12.trans s3), e1⟩
              · cases e1
            | true =>
              dsimp only at e1
              split at e1
              · rename_i he2
                subst he2
                rw [if_pos rfl]
                refine hk D0 xs σ2 H3 _ ⟨en2, L3, R4, ?_⟩
                cases e4 : mkeep mk en2 with
                | stuck => rw [e4] at e1; cases e1
                | exc _ _ => rw [e4] at e1; cases e1
                | ok sv en3 =>
                  rw [e4] at e1
                  cases sv with
                  | own _ => cases e1
                  | bor _ => cases e1
                  | d y =>
                    dsimp only at e1
                    split at e1
                    · rename_i he3
                      subst he3
                      intro u H4 L4 R5 s4 hu
                      refine hv D0 xs σ2 H4 _ ⟨en3, L4, R5, ?_⟩
                      cases e5 : mkeep mv en3 with
                      | stuck => rw [e5] at e1; cases e1
                      | exc _ _ => rw [e5] at e1; cases e1
                      | ok sv en4 =>
                        rw [e5] at e1
                        cases sv with
                        | own _ => cases e1
                        | bor _ => cases e1
                        | d z =>
                          dsimp only at e1
                          split at e1
                          · rename_i kk ek
                            split at e1
                            · rename_i hc
                              obtain ⟨he4, hlen⟩ := hc
                              subst he4
                              intro v H5 L5 R6 s5 hv5
                              have hD5 : H5 D0 = some (.dK xs) := (R6.base D0 List.mem_cons_self).2.1.trans upd_same
                              have mD5 : D0 ∈ L5 := (R6.base D0 List.mem_cons_self).1
                              have st : Same (hid H1 L1) (hid H5 L5) := s12.trans (s3.trans (s4.trans s5))
                              obtain ⟨rfl, _⟩ := key_of_D (L := L4) (.inl hu) ek
                              refine ⟨xs, kk, rfl, hD5, by rw [hacc.length]; exact hlen, L5, putD acc kk z, putK xs kk v, (back R6).pushBlkD nB, by rw [hid_upd mD5]; exact s1.trans st, ?_, e1⟩
                              rw [hid_upd mD5]
                              exact (hacc.mono st).put hv5
                            · cases e1
                          · cases e1
                    · cases e1
              · cases e1
      · have hi' : i = ds.length := by omega
        have hdrop : ds.drop i = [] := List.drop_eq_nil_of_le (by omega)
        rw [hdrop] at e1
        cases e1
        refine .inl ⟨W.stop i H1 L1 hok hi', ?_⟩
        have hbase := (R1.base D0 List.mem_cons_self).2.2
        have R2 : RelS G L1 (wipe σ vs) H1 (wipeEn en vs) := R1.ofBlkD nB
        have nown : ∀ (j : Nat) (c : OB), en[j]? = some (some (SV.own c)) → j ∉ vs := fun j c ej mj => by
          have z := List.all_eq_true.mp hno j mj
          simp only [ej] at z
          cases z
        have R3 : RelS G L1 σ H1 en := by
          refine ⟨R2.own, R2.same, R.len, fun j sv ej => ?_, R.apart, fun a ma => ?_⟩
          · by_cases mj : j ∈ vs
            · have z := R.slot j sv ej
              cases sv with
              | d dd => obtain ⟨v, q1, q2⟩ := z; exact ⟨v, q1, Dq.mono s1 _ q2⟩
              | own c => exact absurd mj (nown j c ej)
              | bor _ => exact z
            · have z := R2.slot j sv (by rw [wipeEn_out _ mj]; exact ej)
              rw [wipe_keeps σ vs j mj] at z
              exact z
          · obtain ⟨h1, h2, h3⟩ := R2.base a ma
            refine ⟨h1, h2, fun j c ej => ?_⟩
            have mj := nown j c ej
            have z := h3 j c (by rw [wipeEn_out _ mj]; exact ej)
            rw [wipe_keeps σ vs j mj] at z
            exact z
        refine q _ H1 L1 R3 s1 ⟨D0, .dK xs, rfl, mD, nB, hD, hacc, fun j c ej => ?_⟩
        have mj := nown j c ej
        have z := hbase j c (by rw [wipeEn_out _ mj]; exact ej)
        rw [wipe_keeps σ vs j mj] at z
        exact z
  · exact q.elim
end
noncomputable def mDc (tg : Tg) (vs : List Nat) (mi : M SV) (mc : M Bool) (mk mv : M SV) : M SV := mbind (mfrz mi) fun sv en => match sv with
  | .d (.list ds) => mDcGo tg vs mc mk mv ds en
  | .d (.tuple ds) => mDcGo tg vs mc mk mv ds en
  | .d (.str z) => mDcGo tg vs mc mk mv (signs z) en
  | .bor i => (match en[i]? with
    | some (some (.own (.lst ds))) => if vs.contains i then .stuck else mDcGo tg vs mc mk mv ds en
    | _ => .stuck)
  | _ => .stuck
section
variable {X : Cx} {G : Gs} {kx vx t iter : Expr} {ifs : List Expr} {scope : Scope} {own : List (Str × Nat)} {mi mk mv : M SV} {mc : M Bool} {tg : Tg} {pos : Pos} {tt : TT} {tk tv : TE}
theorem dc_imp (hsub : ∀ j ∈ tg.slots, j ∈ own.map (·.2)) (ht : ∀ (D0 : Addr) (xs : List (Key × V)) (σ' : St) (H' : Hp) Q, tT (G.blkD D0 xs) mc σ' H' Q → tt σ' H' Q) (hk : ∀ (D0 : Addr) (xs : List (Key × V)) (σ' : St) (H' : Hp) Q, tE (G.blkD D0 xs) (mkeep mk) σ' H' Q → tk σ' H' Q)
    (hv : ∀ (D0 : Addr) (xs : List (Key × V)) (σ' : St) (H' : Hp) Q, tE (G.blkD D0 xs) (mkeep mv) σ' H' Q → tv σ' H' Q)
    (σ : St) (H : Hp) (Q : VK) (h : tE G (mDc tg (own.map (·.2)) mi mc mk mv) σ H Q) : tDc (iAny G.K (tE G (mfrz mi))) (gOf G.K tg) tt tk tv (own.map (·.2)) σ H Q := by
  obtain ⟨en, L, R, q⟩ := h
  refine (seqE R q).mono fun v H1 ⟨en1, L1, sv, R1, s1, r1, q1⟩ => ?_
  cases sv with
  | own _ => exact q1.elim
  | bor i =>
    obtain ⟨e1, b, e2⟩ := r1
    simp only [e2] at q1
    cases b with
    | dct _ => exact q1.elim
    | lst ds =>
      dsimp only at q1
      split at q1
      · exact q1.elim
      · rename_i hni
        obtain ⟨a, xs, e3, ma, ho, hr⟩ := slot_lst R1 e2
        rw [e1] at e3
        cases e3
        have mi' : i ∉ own.map (·.2) := fun z => hni (List.contains_iff_mem.mpr z)
        refine .inl ⟨a, xs, rfl, .of ho, dc_run walks_list R1 q1 hsub (fun G' H' L' hK R' s' => ?_) ht hk hv⟩
        obtain ⟨a', xs', e4, _, ho', hr'⟩ := slot_lst R' (i := i) (ds := ds) (by rw [wipeEn_out _ mi']; exact e2)
        rw [wipe_keeps σ _ i mi', e1] at e4
        cases e4
        rw [hK] at hr'
        exact ⟨xs', ho', hr'⟩
  | d d =>
    cases d with
    | list ds =>
      cases r1 with
      | lst hs ha => exact .inl ⟨_, _, rfl, .of (hid_same _ _ hs), dc_run walks_list R1 q1 hsub (fun G' H' L' hK R' s' => ⟨_, hid_same _ _ (s' _ _ hs), DqAll.mono s' _ ha⟩) ht hk hv⟩
    | tuple ds =>
      cases r1 with
      | tup hs ha => exact .inr (.inl ⟨_, _, rfl, sqT_mono hid_same hs, dc_run walks_tup R1 q1 hsub (fun G' H' L' hK R' s' => ⟨_, sqT_mono hid_same (sqT_mono s' hs), DqAll.mono s' _ ha⟩) ht hk hv⟩)
    | str z =>
      cases r1
      exact .inr (.inr ⟨z, rfl, dc_run walks_str R1 q1 hsub (fun _ _ _ _ _ _ => trivial) ht hk hv⟩)
    | _ => exact q1.elim
/-- what stands in the block -/
structure InBlkD (X : Cx) (G : Gs) (scope : Scope) (t kx vx : Expr) (ifs : List Expr) (tg : Tg) (mc : M Bool) (mk mv : M SV) : Prop where
  g : ∀ (s : Shared) (H : Hp) (C : Addr) (cl : List (Str × Addr)) (fp : List Addr), PG (X.blk s H scope (compEnvC scope cl C X.env) fp) t (gOf X.K tg)
  c : ∀ (s : Shared) (H : Hp) (C : Addr) (cl : List (Str × Addr)) (fp : List Addr) (D0 : Addr) (xs : List (Key × V)), PTs (X.blk s H scope (compEnvC scope cl C X.env) fp) ifs (tT (G.blkD D0 xs) mc)
  k : ∀ (s : Shared) (H : Hp) (C : Addr) (cl : List (Str × Addr)) (fp : List Addr) (D0 : Addr) (xs : List (Key × V)), PE (X.blk s H scope (compEnvC scope cl C X.env) fp) kx (tE (G.blkD D0 xs) mk)
  v : ∀ (s : Shared) (H : Hp) (C : Addr) (cl : List (Str × Addr)) (fp : List Addr) (D0 : Addr) (xs : List (Key × V)), PE (X.blk s H scope (compEnvC scope cl C X.env) fp) vx (tE (G.blkD D0 xs) mv)
theorem je_dc (hc : X.calm = true) (hN : X.N.Nodup) (hK : X.K = G.K) (hi : PE X iter (tE G mi)) (ok : BlkOk X.N X.env.scope scope own) (B : InBlkD X G scope t kx vx ifs tg mc mk mv) (hsub : ∀ j ∈ tg.slots, j ∈ own.map (·.2))
    (hs : ∀ x, foldedSetIterable iter X.env x = pure x := by intro _; rfl) : PE X (.DictComp kx vx [⟨t, iter, ifs, 0⟩] scope pos) (tE G (mDc tg (own.map (·.2)) mi mc mk mv)) :=
  (pe_dc (tt := fun σ H Q => ∃ p : Addr × List (Key × V), tT (G.blkD p.1 p.2) mc σ H Q) (tk := fun σ H Q => ∃ p : Addr × List (Key × V), tE (G.blkD p.1 p.2) (mkeep mk) σ H Q) (tv := fun σ H Q => ∃ p : Addr × List (Key × V), tE (G.blkD p.1 p.2) (mkeep mv) σ H Q)
    hc hN (pi_any (je_frz hi)) ok B.g (fun s H C cl fp => PTs.ex fun p => B.c s H C cl fp p.1 p.2) (fun s H C cl fp => PE.ex fun p => je_keep (B.k s H C cl fp p.1 p.2)) (fun s H C cl fp => PE.ex fun p => je_keep (B.v s H C cl fp p.1 p.2)) hs).imp fun σ H Q h => by
    rw [hK]
    exact dc_imp hsub (fun D0 xs _ _ _ q => ⟨(D0, xs), q⟩) (fun D0 xs _ _ _ q => ⟨(D0, xs), q⟩) (fun D0 xs _ _ _ q => ⟨(D0, xs), q⟩) σ H Q h
end
end L2

namespace L2
open PySem PySem.Spec PyProof.Rows

/-! ### sorted(set(xs)), xs texts -/
def sortSet (xs : List Str) : List Str := sortStrs xs.eraseDups
def ssD : D → Option (List Str)
  | .list ds => (match strsOf ds with
    | some xs => if xs.length < 64 then some (sortSet xs) else none
    | none => none)
  | _ => none
def mSortSet (m : M SV) : M SV := mbind (mfrz m) fun sv en => match look en sv with
  | some d => (match ssD d with
    | some xs => .ok (.own (.lst (xs.map .str))) en
    | none => .stuck)
  | none => .stuck
section
variable {X : Cx} {G : Gs} {e : Expr} {m : M SV} {p p2 pos pos2 : Pos}
/-! ### an expression as a statement -/
def mExpr (m : M SV) : M Ct := mbind m fun _ => mpure .nx
theorem js_expr (he : PE X e (tE G m)) (hs : swapsWith e none pos.line X.env = pure false := by rfl) : PS X (.Expr e pos) (tS G [] (mExpr m)) := (ps_expr he hs).imp fun E σ H h => by
  obtain ⟨en, L, R, q⟩ := h
  refine (seqES R q).mono fun v H1 ⟨en1, L1, sv, R1, s1, r1, q1⟩ => ?_
  exact q1 σ H1 L1 R1 (Same.refl _) Keeps.refl
end
end L2

namespace L2
open PySem PySem.Spec PyProof.Rows

/-! ### the law's own call -/
def spLaw (K : Kf) : Sp := fun vs H Q _ => ∃ (a : Addr) (ns : List Int), vs = [.ref a] ∧ ns.length ≤ 63 ∧ SqL K H a (ns.map V.int) ∧ ∀ H', Q (.bl true) H'
theorem fn_law {P : Program} {w : World} {K : Kf} {mg : Str → Option Value} {base : Heap} {k : Nat} {f : Addr} {fd : FuncData} {ps : List Str} {F : Fm} (hp : ps.length = 1) (h : FnOk P w K mg base (L2N.CX P w) k f fd ps (spF K mg 1 F))
    (math : ∀ ns : List Int, ns.length ≤ 63 → ∃ en, F [scrD ns] = .ok (.d (.bool true)) en) : FnOk P w K mg base (L2N.CX P w) k f fd ps (spLaw K) where
  len := fun vs H Q E ⟨a, ns, e, _⟩ => by rw [e, hp]; rfl
  run := fun A outer s H args us vs Q E hr he hb hv ⟨a, ns, e, hl, hS, q⟩ => h.run A outer s H args us vs Q E hr he hb hv (by
    subst e
    obtain ⟨en, em⟩ := math ns hl
    refine ⟨rfl, [], [scrD ns], (fun a m => absurd m List.not_mem_nil), .cons (.scr ?_) .nil, ?_⟩
    · rw [hid_nil]; exact hS
    · rw [em]
      intro v H' _ r
      cases r
      exact q H')
theorem cx_no {P : Program} {w : World} {H : Hp} {s s' : Shared} {e : Value} (h : L2N.CX P w [] H s (fun _ _ _ => False) e s') : False := by
  obtain ⟨a, B, H', cls, d, _, _, _, _, _, _, _, z⟩ := h
  exact z
theorem exm_eq {K : Kf} {C : Addr} (e : W.subIn K (.ref C) (.type "BaseException") = some true) (j : W.isClsIn K C = true) (t : W.typeIn K (.ref C) = some (.type "type")) (s : W.subIn K (.ref C) (.ref C) = some true) : W.exmOne K (.ref C) (.ref C) = some true := by
  have j' : (W.clsIn K C).isSome = true := j
  unfold W.exmOne W.kitCls
  rw [e]
  simp only [beq_self_eq_true, if_true]
  rw [j', t]
  simp only [beq_self_eq_true, Bool.and_self, if_true]
  exact s
end L2

namespace L2
open PySem PySem.Spec PyProof.Rows

/-! ### a set of texts, with what its order rests on -/
def GoodT (w : World) (e : Int × Value) : Prop := ∃ x tk, e.2 = .str x tk ∧ e.1 = hashStr w x
def keyT (e : Int × Value) : Str := match e.2 with
  | .str x _ => x
  | _ => Str.empty
structure SetT (w : World) (h : Heap) (a : Addr) (xs : List Str) (n : Nat) (ob : Obj) (es : Array (Int × Value)) (ep : Nat) (t : SetTable) : Prop where
  at_ : h.get? a = some ob
  ex : ob.ExactSet
  dat : ob.data = .set es ep t
  good : ∀ e ∈ es.toList, GoodT w e
  nd : (es.toList.map keyT).Nodup
  mem : ∀ x, x ∈ xs ↔ x ∈ es.toList.map keyT
  few : es.size ≤ n
  fits : t.fits es.size = true
  ris : Ris t.place.toList
  led : w.params.followText "set-order" = true ∨ t.led = true
def HasT (w : World) (h : Heap) (a : Addr) (xs : List Str) (n : Nat) : Prop := ∃ ob es ep t, SetT w h a xs n ob es ep t
theorem HasT.keep {w : World} {h h' : Heap} {a : Addr} {xs : List Str} {n : Nat} (S : HasT w h a xs n) (k : ∀ o, h.get? a = some o → h'.get? a = some o) : HasT w h' a xs n := by
  obtain ⟨ob, es, ep, t, S⟩ := S
  exact ⟨ob, es, ep, t, { S with at_ := k _ S.at_ }⟩
theorem goodT_elems {P : Program} {w : World} {l : List (Int × Value)} (g : ∀ e ∈ l, GoodT w e) : ElemsOf (PySem.strKind P w) l := fun e m => by
  obtain ⟨x, tk, h1, h2⟩ := g e m
  rw [h1]
  exact ⟨⟨x, strKind_is _ _ _ _, h2⟩, rfl⟩
theorem goodT_key {P : Program} {w : World} {l : List (Int × Value)} (g : ∀ e ∈ l, GoodT w e) (x : Str) : x ∈ l.map keyT ↔ ∃ e ∈ l, (PySem.strKind P w).is x e.2 = true := by
  constructor
  · intro m
    obtain ⟨e, me, q⟩ := List.mem_map.mp m
    obtain ⟨y, tk, h1, _⟩ := g e me
    refine ⟨e, me, ?_⟩
    have : y = x := by rw [← q]; unfold keyT; rw [h1]
    rw [h1, this]
    exact strKind_is _ _ _ _
  · rintro ⟨e, me, q⟩
    obtain ⟨y, tk, h1, _⟩ := g e me
    refine List.mem_map.mpr ⟨e, me, ?_⟩
    have c : (PySem.strKind P w).is y e.2 = true := by rw [h1]; exact strKind_is _ _ _ _
    have := (PySem.strKind P w).inj _ _ _ c q
    unfold keyT
    rw [h1]
    exact this
section
variable {P : Program} {w : World} {A : Around} {E : Value → Shared → Prop} {s : Shared} {a : Addr} {xs : List Str} {n : Nat} {x : Str}
/-- what stands behind the table's new row -/
theorem add_end {g : Bool → Sem Unit} (hg : ∀ b s₁ (Q' : Unit → Shared → Prop), Q' () s₁ → wpAny (model P w) A (g b) Q' E s₁) {ob : Obj} {es es1 : Array (Int × Value)} {ep : Nat} {t t2 : SetTable}
    (h0 : s.heap.get? a = some ob) (hx : ob.ExactSet) (h1 : ob.data = .set es ep t) (g1 : ∀ e ∈ es1.toList, GoodT w e) (n1 : (es1.toList.map keyT).Nodup) (m1 : ∀ y, y ∈ x :: xs ↔ y ∈ es1.toList.map keyT)
    (f1 : es1.size ≤ n) (hn : n < scanBound) (f2 : t2.fits es1.size = true) (r2 : Ris t2.place.toList) (l2 : w.params.followText "set-order" = true ∨ t2.led = true) {old : Bool} {R : Option Bool → Shared → Prop}
    (k : ∀ h', Heap.SameBut a s.heap h' → HasT w h' a (x :: xs) n → R (some true) { s with heap := h' }) :
    wpAny (model P w) A (do
      storeSet a es1 t2
      if (!old && t2.tooFull) = true then do
        g (relayAll t2 es1 (SetTable.grown es1.size)).2.2
        storeSet a (relayAll t2 es1 (SetTable.grown es1.size)).1 (relayAll t2 es1 (SetTable.grown es1.size)).2.1
        pure (some true)
      else pure (some true)) R E s := by
  have b1 : es1.size < scanBound := Nat.lt_of_le_of_lt f1 hn
  have o1 := store_at (es' := es1) (t' := t2) h0 h1
  have c1 := Heap.SameBut.update s.heap a (Obj.putSet es1 t2)
  refine wpAny_bind (wpAny_storeSet_of h0 h1 ?_ (fits_of_scanBound b1))
  by_cases hf : (!old && t2.tooFull) = true
  · rw [if_pos hf]
    have pm := relayAll_perm t2 es1 (SetTable.grown es1.size); have f3 := relayAll_fits t2 es1 (SetTable.grown es1.size)
    have r3 := relayAll_ris t2 es1 (SetTable.grown es1.size); have l3 := relayAll_led t2 es1 (SetTable.grown es1.size)
    generalize relayAll t2 es1 (SetTable.grown es1.size) = Y at pm f3 r3 l3 ⊢
    obtain ⟨es2, t3, gv⟩ := Y
    dsimp only at pm f3 r3 l3 ⊢
    have z2 : es2.size = es1.size := by rw [← Array.length_toList, pm.length_eq, Array.length_toList]
    refine wpAny_bind (hg _ _ _ (wpAny_bind (wpAny_storeSet_of o1 rfl ?_ (fits_of_scanBound (by rw [z2]; exact b1)))))
    have o2 := store_at (es' := es2) (t' := t3) o1 rfl
    exact wpAny_pure (k _ (c1.trans (Heap.SameBut.update _ a _)) ⟨_, es2, _, t3, { at_ := o2, ex := hx, dat := rfl, good := fun e m => g1 e (pm.mem_iff.mp m), nd := (pm.map keyT).nodup_iff.mpr n1, mem := fun y => (m1 y).trans (pm.map keyT).mem_iff.symm, few := by rw [z2]; exact f1, fits := f3, ris := r3, led := l2.imp id fun q => by rw [l3]; exact q }⟩)
  · rw [if_neg hf]
    exact wpAny_pure (k _ c1 ⟨_, es1, _, t2, { at_ := o1, ex := hx, dat := rfl, good := g1, nd := n1, mem := m1, few := f1, fits := f2, ris := r2, led := l2 }⟩)
theorem addT {tk : Tok} {Q : Bool → Shared → Prop} (S : HasT w s.heap a xs n) (room : n + 1 < scanBound) (k : ∀ b h', Heap.SameBut a s.heap h' → HasT w h' a (x :: xs) (n + 1) → Q b { s with heap := h' }) :
    wpAny (model P w) A (setAddHashed a (.str x tk) ((PySem.strKind P w).hash x)) Q E s := by
  obtain ⟨ob, es, ep, t, S⟩ := S
  have hk : (PySem.strKind P w).is x (.str x tk) = true := strKind_is _ _ _ _
  have hs : (Value.str x tk).scannable = true := rfl
  have he := goodT_elems (P := P) S.good
  have hb : es.size < scanBound := by have := S.few; omega
  unfold setAddHashed setAddHashedIn
  refine wpAny_holding (wpAny_bind (wpAny_setState_of S.at_ S.dat S.fits ?_))
  dsimp only
  rw [byScan_of hs hb he, if_pos rfl]
  unfold setAddByScan
  refine wpAny_bind (wpAny_bind (wpAny_rule (wpAny_bind (wpAny_setScan_of hk S.at_ S.dat S.fits he ?_))))
  cases hf : List.findIdx? (fun e => (PySem.strKind P w).is x e.2) es.toList with
  | some j =>
    obtain ⟨lj, pj, _⟩ := List.findIdx?_eq_some_iff_getElem.mp hf
    have mx : x ∈ es.toList.map keyT := (goodT_key (P := P) S.good x).mpr ⟨_, List.getElem_mem lj, pj⟩
    refine wpAny_pure (wpAny_pure (k false s.heap (Heap.SameBut.refl a s.heap) ⟨ob, es, ep, t, { S with mem := fun y => ?_, few := Nat.le_succ_of_le S.few }⟩))
    rw [List.mem_cons, ← S.mem y]
    exact ⟨fun z => z.elim (fun q => by rw [q]; exact (S.mem x).mpr mx) id, .inr⟩
  | none =>
    dsimp only
    have nx : x ∉ es.toList.map keyT := fun z => by
      obtain ⟨e, me, q⟩ := (goodT_key (P := P) S.good x).mp z
      have c := List.findIdx?_eq_none_iff.mp hf e me
      rw [q] at c
      cases c
    have gw : ∀ (b : Bool) {s₁ : Shared} {Q' : Unit → Shared → Prop}, Q' () s₁ → wpAny (model P w) A (match b with
        | true => rule "set.scan.the-table-gave-way"
        | false => pure ()) Q' E s₁ := fun b s₁ Q' q => by cases b <;> first | exact wpAny_pure q | exact wpAny_rule q
    have pm := layNew_perm t es ((PySem.strKind P w).hash x) (.str x tk); have f1 := layNew_fits t es ((PySem.strKind P w).hash x) (.str x tk)
    have r1 := layNew_ris t es ((PySem.strKind P w).hash x) (.str x tk) S.ris; have l1 := layNew_led t es ((PySem.strKind P w).hash x) (.str x tk)
    generalize layNew t es ((PySem.strKind P w).hash x) (.str x tk) = Y at pm f1 r1 l1 ⊢
    obtain ⟨es1, t1, old, gv⟩ := Y
    dsimp only at pm f1 r1 l1 ⊢
    rw [Array.toList_push] at pm
    have pc : es1.toList.Perm (((PySem.strKind P w).hash x, Value.str x tk) :: es.toList) := pm.trans (List.perm_append_singleton _ _)
    have pk : (es1.toList.map keyT).Perm (x :: es.toList.map keyT) := pc.map keyT
    have g1 : ∀ e ∈ es1.toList, GoodT w e := fun e m => (List.mem_cons.mp (pc.mem_iff.mp m)).elim (fun q => by rw [q]; exact ⟨x, tk, rfl, rfl⟩) (S.good e)
    have n1 : (es1.toList.map keyT).Nodup := pk.nodup_iff.mpr (List.nodup_cons.mpr ⟨nx, S.nd⟩)
    have m1 : ∀ y, y ∈ x :: xs ↔ y ∈ es1.toList.map keyT := fun y => by rw [pk.mem_iff, List.mem_cons, List.mem_cons, S.mem y]
    have z1 : es1.size ≤ n + 1 := by
      rw [← Array.length_toList, pc.length_eq, List.length_cons, Array.length_toList]
      exact Nat.succ_le_succ S.few
    have ld : w.params.followText "set-order" = true ∨ t1.led = true := S.led.imp id fun q => by rw [l1]; exact q
    refine wpAny_bind (gw _ ?_)
    split
    · refine wpAny_bind ?_
      rw [hashByValue_scannable 8 hs]
      refine wpAny_pure (add_end (fun b s₁ Q' q => by cases b <;> first | exact wpAny_pure q | exact wpAny_rule q) S.at_ S.ex S.dat g1 n1 m1 z1 room ?_ ?_ ?_ ?_)
      · first | (split <;> first | exact f1 | exact SetTable.fits_plain_off f1) | exact f1
      · first | (split <;> exact r1) | exact r1
      · first | (split <;> exact ld) | exact ld
      · exact fun h' sb r => wpAny_pure (k true h' sb r)
    · refine wpAny_bind (wpAny_pure ?_)
      rw [if_pos rfl]
      exact add_end (fun b s₁ Q' q => by cases b <;> first | exact wpAny_pure q | exact wpAny_rule q) S.at_ S.ex S.dat g1 n1 m1 z1 room f1 r1 ld fun h' sb r => wpAny_pure (k true h' sb r)
end
end L2

namespace L2
open PySem PySem.Spec PyProof.Rows

section
variable {P : Program} {w : World} {A : Around} {E : Value → Shared → Prop} {s : Shared} {a : Addr} {xs : List Str} {n : Nat}
theorem strs_of_all : ∀ (vs : List Value), (∀ v ∈ vs, ∃ x t, v = .str x t) → ∃ ss, StrsAre vs ss
  | [], _ => ⟨[], .nil⟩
  | v :: r, h => by
    obtain ⟨x, t, rfl⟩ := h v List.mem_cons_self
    obtain ⟨ss, q⟩ := strs_of_all r fun u m => h u (List.mem_cons_of_mem _ m)
    exact ⟨x :: ss, .cons x t q⟩
theorem strsAre_key : ∀ {vs : List Value} {ss : List Str}, StrsAre vs ss → ss = vs.map fun v => keyT (0, v)
  | _, _, .nil => rfl
  | _, _, .cons x t h => by rw [List.map_cons, ← strsAre_key h]; rfl
/-- sorted(it) -/
theorem sortT {Q : Value → Shared → Prop} (S : HasT w s.heap a xs n) (hh : A.handled = none) (hn : n < scanBound)
    (k : ∀ s' p (out : Array Value) (c : Nat) (ys : List Str), (∀ b o, s.heap.get? b = some o → s'.heap.get? b = some o) → s'.gens = s.gens → s'.os = s.os → s.heap.objs.size ≤ p →
      s'.heap.get? p = some (seqObj "list" out c) → StrsAre out.toList ys → ys.length ≤ n → ys.Nodup → (∀ x, x ∈ ys ↔ x ∈ xs) → sortedS ys = true → Q (.ref p) s') :
    wpAny (model P w) A (call (.builtin "sorted") [.ref a]) Q E s := by
  obtain ⟨ob, es, ep, t, S⟩ := S
  have hb : es.size < scanBound := Nat.lt_of_le_of_lt S.few hn
  refine Calls.call_function_entry kind_sorted plain_sorted entry_sorted (args_sorted1 _) ?_
  unfold Builtin.«sorted»
  refine wpAny_bind (m := checkCount "sorted" 1 1 _) (wpAny_pure (wpAny_bind (collect_set (A := A.in1) hh ⟨ob, S.at_, S.ex.1, S.dat⟩ S.fits hb S.ris S.led fun s1 vs k1 hz g1 o1 pm => ?_)))
  obtain ⟨ss, hS⟩ := strs_of_all vs fun v m => by
    obtain ⟨e, me, q⟩ := List.mem_map.mp (pm.mem_iff.mp m)
    obtain ⟨x, tk, h1, _⟩ := S.good e me
    exact ⟨x, tk, by rw [← q]; exact h1⟩
  have pk : ss.Perm (es.toList.map keyT) := by
    rw [strsAre_key hS]
    have q := pm.map fun v => keyT (0, v)
    rw [List.map_map] at q
    exact q
  have hvl : vs.length ≤ sizeLine := by
    rw [pm.length_eq, List.length_map, Array.length_toList]
    exact fits_of_scanBound hb
  refine wpAny_bind (wpAny_newList ?_ hvl)
  have hoL : (s1.heap.push (seqObj "list" vs.toArray 0)).get? s1.heap.objs.size = some (seqObj "list" vs.toArray 0) := Heap.get?_push_size _ rfl
  refine wpAny_bind (wpAny_holding (wpAny_call_entry slot_list_sort ⟨_, hoL, rfl⟩ entry_list_sort (list_sort_treeKAny strKind_oneLt hoL hS.keysOf (fun v₁ v₂ rest e => keyKind_strs (by rw [← e]; exact hS)) hvl fun st' hp hs => ⟨_, rfl, ?_⟩) (args_list_sort _)))
  obtain ⟨ys, h1, h2, h3⟩ := sorted_out_str hS hp hs
  obtain ⟨c, hc⟩ := sortedHeap_at (vs := vs) (out := (arrOf st').map (·.2)) hoL
  have pn : ys.Perm (es.toList.map keyT) := h2.trans pk
  refine wpAny_pure ⟨_, rfl, k _ s1.heap.objs.size _ c ys (fun b u e => ?_) g1 o1 hz hc h1 (by rw [pn.length_eq, List.length_map, Array.length_toList]; exact S.few) (pn.nodup_iff.mpr S.nd) (fun x => by rw [pn.mem_iff, ← S.mem x]) h3⟩
  have q := k1 b u e
  have hlt := Heap.lt_size q
  show (sortedHeap (s1.heap.push (seqObj "list" vs.toArray 0)) s1.heap.objs.size vs _).get? b = some u
  rw [sortedHeap_old (Nat.ne_of_lt hlt) (by rw [size_push']; exact Nat.lt_succ_of_lt hlt)]
  exact Heap.get?_push_of_some _ q
theorem led_fresh (w : World) : w.params.followText "set-order" = true ∨ (SetTable.fresh 0 0 (!w.params.followText "set-order")).led = true := by
  cases h : w.params.followText "set-order"
  · exact .inr rfl
  · exact .inl rfl
theorem HasT.fresh {h : Heap} (w : World) : HasT w (h.push { cls := .type "set", dict := none, data := .set #[] 0 (.fresh 0 0 (!w.params.followText "set-order")) }) h.objs.size [] 0 :=
  ⟨_, #[], 0, _, { at_ := Heap.get?_push_size _ rfl, ex := ⟨rfl, rfl, rfl⟩, dat := rfl, good := fun e he => by simp at he, nd := by simp, mem := fun x => by simp, few := Nat.le_refl 0, fits := by rfl, ris := .nil, led := led_fresh w }⟩
theorem HasT.more {h : Heap} {ys : List Str} {m : Nat} (S : HasT w h a xs n) (e : ∀ x, x ∈ ys ↔ x ∈ xs) (l : n ≤ m) : HasT w h a ys m := by
  obtain ⟨ob, es, ep, t, S⟩ := S
  exact ⟨ob, es, ep, t, { S with mem := fun x => (e x).trans (S.mem x), few := Nat.le_trans S.few l }⟩
/-- the loop of set(xs) -/
theorem loopT {R : Result → Shared → Prop} {I : Addr} {fp wr : List Addr} {G : Array GenState → Array GenState → Prop} {n : Nat} {Pv : Nat → Value → Prop} {St : Nat → Shared → Prop} (W : WalksS P w A.in1 I fp wr G n Pv St) (a : Addr) (hf : a ∉ fp) (ts : List Str) (hl : ts.length = n) (hn : n + 1 < scanBound)
    (hv : ∀ i v, Pv i v → ∃ t, v = .str (ts.getD i Str.empty) t) : ∀ (k i : Nat) (s : Shared), n - i = k → i ≤ n → St i s → HasT w s.heap a (ts.take i) i →
      (∀ s', Moved (a :: wr) G s s' → HasT w s'.heap a ts n → R (.ok (.ret .none)) s') → codeAny (model P w) A (.builtin "set.update.loop" ⟨[.ref a, .ref I], []⟩) R s := by
  have nw : a ∉ wr := fun h => hf (W.sub _ h)
  have ws : ∀ b ∈ wr, b ∈ a :: wr := fun b => List.mem_cons_of_mem _
  intro k
  induction k with
  | zero =>
    intro i s hk hi hst S kR
    obtain rfl : i = n := by omega
    refine codeAny_builtin PyProof.Rows.F.entry_set_update_loop ?_
    rw [Around.under_plainId PyProof.Rows.F.plain_set_update_loop _]
    show wpAny _ A.in1 (pyNext (.ref I) >>= _) _ _ s
    refine wpAny_bind (W.done s _ _ hst fun s' mv => ?_)
    rw [List.take_of_length_le (by omega)] at S
    exact wpAny_pure (kR s' (mv.mono ws) (S.keep fun o e => mv.heap a o nw e))
  | succ k ih =>
    intro i s hk hi hst S kR
    have lt : i < n := by omega
    refine codeAny_builtin PyProof.Rows.F.entry_set_update_loop ?_
    rw [Around.under_plainId PyProof.Rows.F.plain_set_update_loop _]
    show wpAny _ A.in1 (pyNext (.ref I) >>= _) _ _ s
    refine wpAny_bind (W.item i s _ _ lt hst fun v s1 hp hst1 mv => ?_)
    obtain ⟨t, rfl⟩ := hv i v hp
    have S1 : HasT w s1.heap a (ts.take i) i := S.keep fun o e => mv.heap a o nw e
    show wpAny _ A.in1 (holding [Value.str (ts.getD i Str.empty) t] (setAdd a (.str (ts.getD i Str.empty) t)) >>= _) _ _ s1
    refine wpAny_bind (wpAny_holding ?_)
    unfold setAdd
    refine wpAny_holding (wpAny_bind ((PySem.strKind P w).pyHash (k := ts.getD i Str.empty) (strKind_is _ _ _ _) ?_))
    refine addT (s := { s1 with toks := s1.toks + 1 }) S1 (by omega) fun b h' sb S2 => ?_
    have e2 : ∀ x, x ∈ ts.take (i + 1) ↔ x ∈ ts.getD i Str.empty :: ts.take i := fun x => by
      have gi : ts.getD i Str.empty = ts[i] := by rw [List.getD_eq_getElem?_getD, List.getElem?_eq_getElem (by omega)]; rfl
      rw [List.take_add_one, List.getElem?_eq_getElem (by omega), gi, List.mem_append, List.mem_cons]
      simp only [Option.toList_some, List.mem_singleton]
      exact Or.comm
    refine wpAny_pure ⟨plainId_quiet PyProof.Rows.F.plain_set_update_loop _, ih (i + 1) _ (by omega) lt (W.frame _ s1 _ _ hst1 (Nat.le_succ _) fun b hb o e => ?_) (S2.more e2 (Nat.le_refl _)) fun s2 mv2 S3 => ?_⟩
    · rw [sb.2 b fun h : b = a => hf (by rw [← h]; exact hb)]; exact e
    · refine kR s2 (Moved.trans W.gtrans ((mv.mono ws).then_heap (Nat.le_succ _) fun b o hb e => ?_) mv2) S3
      rw [sb.2 b fun h : b = a => hb (by rw [h]; exact List.mem_cons_self)]; exact e
/-- set.__new__ with one thing beside the class -/
theorem newT (v : Value) {Q₁ : Value → Shared → Prop} (k : Q₁ (.ref s.heap.objs.size) { s with heap := s.heap.push { cls := .type "set", dict := none, data := .set #[] 0 (.fresh 0 0 (!w.params.followText "set-order")) } }) :
    codeAny (model P w) A (.call (.builtin "set.__new__") ⟨[.type "set", v], []⟩) (wants Q₁ E) s := by
  refine codeAny_of_tree ?_
  show wpAny _ A.in1 (do checkBuiltinCall "set.__new__" ⟨[.type "set", v], []⟩; again (.builtin "set.__new__" ⟨[.type "set", v], []⟩)) _ _ s
  refine wpAny_bind (wpAny_of_eq (PySem.F.newCall_set_1 v) (wpAny_pure ⟨plainId_quiet F.plain_set_new _, codeAny_builtin F.entry_set_new ?_⟩))
  rw [Around.under_plainId F.plain_set_new _]
  unfold Builtin.«set.__new__» Builtin.Frozenset.newClass
  have hsub := sub_set_self
  obtain ⟨hp, g, d, tk, os⟩ := s
  dsimp only
  wp_walk
  refine wpAny_askSetting (wpAny_pure ?_)
  dsimp only
  simp only [newObj]
  exact wpAny_bind (wpAny_alloc (wpAny_pure (wpAny_pure k)))
end
end L2

namespace L2
open PySem PySem.Spec PyProof.Rows

section
variable {P : Program} {w : World} {A : Around} {E : Value → Shared → Prop} {s : Shared}
/-- set(xs), xs a list of texts -/
theorem setT {l : Addr} {items : Array Value} {ts : List Str} {Q : Value → Shared → Prop} (hh : A.handled = none) (hl : s.heap.IsList l items) (hi : StrsAre items.toList ts) (hn : ts.length + 1 < scanBound)
    (k : ∀ (h' : Heap) (tk : Nat), HasT w h' s.heap.objs.size ts ts.length → (∀ b o, b < s.heap.objs.size → s.heap.get? b = some o → h'.get? b = some o) → Q (.ref s.heap.objs.size) { s with heap := h', toks := tk }) :
    wpAny (model P w) A (call (.type "set") [.ref l]) Q E s := by
  obtain ⟨c, tl, hmro⟩ := PySem.F.called_set.mro; have hmade := PySem.F.called_set.made; have hsub := PySem.F.called_set.sub
  refine wpAny_call (codeAny_of_tree ?_); show wpAny _ _ (callAny (.type "set") _) _ _ _
  refine wpAny_pure ⟨Code.quiet_builtin _ (by decide +kernel), codeAny_builtin PySem.F.entry_type_call ?_⟩; rw [Around.under_plain (weight_type_call_type "set" [.ref l] []) rfl]
  have h1 := PySem.F.called_set.notType; have h2 := PySem.F.called_set.canCreate; have hct := PySem.F.typeCall_set_1 (.ref l)
  repeat (any_goals (first | assumption | wp_step))
  let h1 : Heap := s.heap.push { cls := .type "set", dict := none, data := .set #[] 0 (.fresh 0 0 (!w.params.followText "set-order")) }
  refine codeAny_mono (newT (.ref l) (E := E) (Q₁ := fun ob s₁ => ob = .ref s.heap.objs.size ∧ s₁ = { s with heap := h1 }) ⟨rfl, rfl⟩) fun r s₁ hr => ?_
  cases r with
  | error e => exact hr
  | ok fl =>
    cases fl with
    | next => exact hr.elim
    | brk => exact hr.elim
    | cont => exact hr.elim
    | ret ob =>
      obtain ⟨rfl, rfl⟩ := hr
      have S0 : HasT w h1 s.heap.objs.size [] 0 := HasT.fresh w
      have o0 : h1.get? s.heap.objs.size = some { cls := .type "set", dict := none, data := .set #[] 0 (.fresh 0 0 (!w.params.followText "set-order")) } := Heap.get?_push_size _ rfl
      have hT : Shared.TypeIs { s with heap := h1 } (.ref s.heap.objs.size) "set" := ⟨_, o0, rfl⟩
      have hli := PySem.F.called_set.init.lookup; have hbi := PySem.F.called_set.init.bind (.ref s.heap.objs.size)
      repeat (any_goals (first | assumption | wp_step))
      refine codeAny_mono (codeAny_call_builtin (R := wants (fun r s₂ => r = .none ∧ ∃ h' tk, s₂ = { s with heap := h', toks := tk } ∧ HasT w h' s.heap.objs.size ts ts.length ∧ (∀ b o, b < s.heap.objs.size → s.heap.get? b = some o → h'.get? b = some o)) E) PySem.F.called_set.init.plain PySem.F.entry_set_init (check_set_init_1 hT ?_)) fun r₂ s₂ hr₂ => ?_
      · obtain ⟨⟨oc, od, odt, osl⟩, hol, hcl, nl, hdl⟩ := hl
        simp only at hcl hdl
        subst hcl; subst hdl
        have hol' : h1.get? l = some { cls := .type "list", dict := od, data := .seq items nl, slots := osl } := Heap.get?_push_of_some _ hol
        have hsls := PySem.F.sub_list_set; have hslf := PySem.F.sub_list_frozenset
        have hne : (Value.type "list" == Value.type "dict") = false := by decide
        have hl1 : h1.IsList l items := ⟨_, hol', rfl, nl, rfl⟩
        unfold Builtin.«set.__init__» noKeywords Builtin.Frozenset.updateFrom
        generalize hPI : pyIter = PI
        wp_walk
        subst hPI
        refine wpAny_pyIter_list hl1 (wpAny_bind (wpAny_runValue ?_))
        have ll : l < s.heap.objs.size := Heap.lt_size hol
        have hh3 : A.in1.in1.in1.handled = none := by simp [hh]
        have z1 : h1.objs.size = s.heap.objs.size + 1 := Heap.size_push ..
        have ni : l ≠ h1.objs.size := fun e => absurd (e.trans z1) (Nat.ne_of_lt (Nat.lt_succ_of_lt ll))
        have nf : s.heap.objs.size ∉ [h1.objs.size, l] := fun m => by
          rcases List.mem_cons.mp m with e | m
          · exact absurd (e.trans z1) (Nat.ne_of_lt (Nat.lt_succ_self _))
          · exact absurd (List.mem_singleton.mp m) (Nat.ne_of_gt ll)
        have hsz : ts.length = items.size := by rw [← StrsAre.len_eq hi, Array.length_toList]
        refine loopT ((Walks.list hh3 _ l ni items).toS) s.heap.objs.size nf ts hsz (by rw [← hsz]; exact hn) (fun i v hv => SS.strs_at hi i v (by rw [Array.getElem?_toList]; exact hv)) (items.size - 0) 0 _ (by omega) (Nat.zero_le _) ⟨⟨_, Heap.get?_push_size _ rfl, rfl, rfl⟩, (hl1.push _)⟩ ?_ ?_
        · exact S0.keep fun o e => Heap.get?_push_of_some _ e
        · rintro ⟨h', g', d', tk', os'⟩ hm S'
          obtain rfl : g' = s.gens := hm.gens
          obtain rfl : d' = s.drawn := hm.drawn
          obtain rfl : os' = s.os := hm.os
          refine wpAny_pure (wpAny_pure ⟨rfl, h', tk', rfl, by rw [hsz]; exact S', fun b o hb e => ?_⟩)
          refine hm.heap b o (fun m => ?_) (Heap.get?_push_of_some _ (Heap.get?_push_of_some _ e))
          rcases List.mem_cons.mp m with e | m
          · exact absurd e (Nat.ne_of_lt hb)
          · exact absurd ((List.mem_singleton.mp m).trans z1) (Nat.ne_of_lt (Nat.lt_succ_of_lt hb))
      · cases r₂ with
        | error e => exact hr₂
        | ok fl₂ =>
          cases fl₂ with
          | next => exact hr₂.elim
          | brk => exact hr₂.elim
          | cont => exact hr₂.elim
          | ret r =>
            obtain ⟨rfl, h', tk, rfl, S', hk'⟩ := hr₂
            repeat (any_goals (first | assumption | wp_step))
            exact k _ _ S' hk'
end
/-! ### over the layer -/
def SetTO (w : World) (a : Addr) (xs : List Str) (n : Nat) : HO := .ext fun h => HasT w h a xs n
section
variable {X : Cx}
theorem setTO_ok {w : World} {P : Program} {H : Hp} {h : Heap} {a : Addr} {xs : List Str} {n : Nat} (S : HasT w h a xs n) : ObjOk P w H h a (SetTO w a xs n) := by
  have ⟨o, _, _, _, z⟩ := S
  exact ⟨S, ⟨o, z.at_⟩, fun h1 h2 q k => HasT.keep q k⟩
theorem setTO_get {pins : List (Addr × Obj)} {σ : St} {H : Hp} {s : Shared} {a : Addr} {xs : List Str} {n : Nat} (I : Inv X pins σ H s) (h : H a = some (SetTO X.w a xs n)) : HasT X.w s.heap a xs n := (I.hok a _ h).1
def rSetT (K : Kf) (w : World) : List V → Hp → VK → Prop := fun vs H Q => ∃ (a : Addr) (xs : List Str), vs = [.ref a] ∧ SqL K H a (xs.map V.str) ∧ xs.length + 1 < scanBound ∧ ∀ p, H p = none → Q (.ref p) (upd H p (SetTO w p xs xs.length))
theorem cr_setT (hc : X.calm = true) : CallR X (.type "set") (rSetT X.K X.w) := by
  intro pins s σ H vs us Q I r h
  obtain ⟨a, xs, rfl, hs, hl, q⟩ := h
  obtain ⟨its, rv, hi, _⟩ := I.list hs
  rw [Vals.ref1 r]
  refine setT (I.ok.hd hc) hi.isList rv.strs hl fun h' tk S k => ?_
  exact ⟨.ref _, upd H s.heap.objs.size (SetTO X.w s.heap.objs.size xs xs.length), I.laid (t' := tk) (fun b o e => k b o (Heap.lt_size e) e) (Nat.le_refl _) (setTO_ok S), rfl, q _ (I.hok.fresh (Nat.le_refl _))⟩
def rSortT (w : World) : List V → Hp → VK → Prop := fun vs H Q => ∃ (a : Addr) (xs : List Str) (n : Nat), vs = [.ref a] ∧ H a = some (SetTO w a xs n) ∧ n < scanBound ∧
  ∀ (ys : List Str) (p : Addr), ys.Nodup → (∀ x, x ∈ ys ↔ x ∈ xs) → sortedS ys = true → H p = none → Q (.ref p) (upd H p (.lst (ys.map V.str)))
theorem cr_sortT' (hc : X.calm = true) : CallR X (.builtin "sorted") (rSortT X.w) := by
  intro pins s σ H vs us Q I r h
  obtain ⟨a, xs, n, rfl, ha, hn, q⟩ := h
  rw [Vals.ref1 r]
  refine sortT (setTO_get I ha) (I.ok.hd hc) hn fun s' p out c ys k g o hp ho hi hl nd hm hs => ?_
  have hlen : (ys.map V.str).length ≤ sizeLine := by rw [List.length_map]; exact Nat.le_trans hl (fits_of_scanBound hn)
  have fr : H p = none := I.hok.fresh hp
  have J : Inv X pins σ (upd H p (.lst (ys.map V.str))) { s with heap := s'.heap, gens := s'.gens, drawn := s'.drawn, toks := s'.toks } :=
    I.call (ch := []) (Un.laid k hp fr) (I.hok.laid k hp ⟨hlen, out.toList, c, vals_of_strs hi, ho⟩) (by rw [g]; exact I.bare) fun _ z => nomatch z
  obtain ⟨sh, sg, sd, st, so⟩ := s'
  obtain rfl : so = s.os := o
  exact ⟨.ref p, _, J, rfl, q ys p nd hm hs fr⟩
end
end L2

namespace L2
open PySem PySem.Spec PyProof.Rows

theorem nodup_dedup : ∀ (n : Nat) (xs : List Str), xs.length ≤ n → xs.eraseDups.Nodup
  | _, [], _ => by rw [List.eraseDups_nil]; exact .nil
  | 0, _ :: _, h => by simp at h
  | n + 1, x :: r, h => by
    rw [List.eraseDups_cons]
    refine List.nodup_cons.mpr ⟨fun m => ?_, nodup_dedup n _ (Nat.le_trans (List.length_filter_le _ _) (by simpa using h))⟩
    have := List.mem_filter.mp (List.mem_eraseDups.mp m)
    simp at this
theorem sortSet_uniq {xs ys : List Str} (nd : ys.Nodup) (m : ∀ x, x ∈ ys ↔ x ∈ xs) (s : ys.Pairwise fun a b => leS a b = true) : ys = sortSet xs :=
  sortStrs_uniq ((List.perm_ext_iff_of_nodup nd (nodup_dedup _ xs (Nat.le_refl _))).mpr fun x => (m x).trans List.mem_eraseDups.symm) s
theorem small_scan {n : Nat} (h : n < 64) : n + 1 < scanBound := by
  unfold scanBound
  omega
section
variable {X : Cx} {G : Gs} {e : Expr} {m : M SV} {p p2 pos pos2 : Pos}
theorem je_sortedSet (hc : X.calm = true) (hK : X.K = G.K) (h1 : Gl X "sorted") (h2 : X.mg "sorted" = none) (h3 : Gl X "set") (h4 : X.mg "set" = none) (he : PE X e (tE G m))
    (e1 : starEach [.Call (.Name "set" p2) [e] [] pos2] X.env = (false, eval (.Call (.Name "set" p2) [e] [] pos2) X.env) :: starEach [] X.env := by rfl) (e2 : starEach [e] X.env = (false, eval e X.env) :: starEach [] X.env := by rfl) :
    PE X (.Call (.Name "sorted" p) [.Call (.Name "set" p2) [e] [] pos2] [] pos) (tE G (mSortSet m)) :=
  (pe_callB (cr_sortT' hc) h1 h2 (by decide +kernel) (pa_cons (pe_callTy (cr_setT hc) h3 h4 (by decide +kernel) (pa_cons (je_frz he) pa_nil e2) (he := e2)) pa_nil e1) (he := e1)).imp fun σ H Q h => by
    obtain ⟨en, L, R, q⟩ := h
    refine (seqE R q).mono fun x H1 ⟨en1, L1, sv, R1, s1, r1, q1⟩ => ?_
    cases e1 : look en1 sv with
    | none => rw [e1] at q1; exact q1.elim
    | some d =>
      rw [e1] at q1
      dsimp only at q1
      cases e2 : ssD d with
      | none => rw [e2] at q1; exact q1.elim
      | some zs =>
        rw [e2] at q1
        dsimp only at q1
        have o := RV.opd R1 (Same.refl _) r1 e1
        unfold ssD at e2
        split at e2
        · rename_i ds
          split at e2
          · rename_i xs e3
            split at e2
            · rename_i hl
              cases e2
              have e4 := strsOf_eq e3
              subst e4
              obtain ⟨a, ys, rfl, ho, hr⟩ := o.list'
              have e5 := dqAll_strs hr
              subst e5
              refine ⟨a, xs, rfl, by rw [hK]; exact ho, small_scan hl, fun b hb => ?_⟩
              refine ⟨b, xs, xs.length, rfl, upd_same, by have := small_scan hl; omega, fun ys p nd hm hs hn => ?_⟩
              rw [sortSet_uniq nd hm (sortedS_pw hs)] at *
              have R2 := R1.grow (same_new (o := SetTO X.w b xs xs.length) hb)
              have s2 := hid_mono (L := L1) (same_new (o := SetTO X.w b xs xs.length) hb)
              exact post_lst R2 hn (strs_dq _) (q1.from s2)
            · cases e2
          · cases e2
        · cases e2
end
end L2

namespace PySem
open Sem (wp)
set_option maxHeartbeats 1000000 in
/-- enumerate(v), v of any kind whose iterator is one new object -/
theorem enum1_new {v : Value} {ob : Obj} {Z : Heap → Prop} (B : Begins v ob Z) :
    Meets (Builtin.«enumerate.__new__» ⟨[.type "enumerate", v], []⟩) fun _ R s => Z s.heap ∧ R (.ok (.ret (.ref (s.heap.push ob).objs.size)))
      { s with heap := (s.heap.push ob).push { cls := .type "enumerate", data := .fields #[.none, .bool false, .ref s.heap.objs.size, rawInt 0, .none, .none] } } :=
  .of_wp fun prog w A R s q => by
    obtain ⟨hp, gn, dd, tk, os⟩ := s
    obtain ⟨hz, q⟩ := q
    have hsub := sub_enumerate
    have it : ∀ {A' : Around} {E : Value → Shared → Prop} {Q : Value → Shared → Prop}, Q (.ref hp.objs.size) ⟨hp.push ob, gn, dd, tk, os⟩ → wpAny (model prog w) A' (pyIter v) Q E ⟨hp, gn, dd, tk, os⟩ :=
      fun z => B.iter prog w _ _ ⟨hp, gn, dd, tk, os⟩ _ hz z
    wp_walk using it
    refine wpAny_stack_any fun st => wpAny_pure ?_
    split
    · rename_i c _ _ _ _ _
      cases (c == Value.type "enumerate") <;> (wp_walk using it; exact ⟨_, rfl, q⟩)
    · wp_walk using it
      exact ⟨_, rfl, q⟩
theorem enum1_call {prog : Program} {w : World} {A : Around} {E : Value → Shared → Prop} {s : Shared} {v : Value} {ob : Obj} {Z : Heap → Prop} {Q : Value → Shared → Prop} (B : Begins v ob Z) (hz : Z s.heap)
    (k : ∀ h1 : Heap, IsEnum h1 (s.heap.objs.size + 1) s.heap.objs.size 0 .none → h1.get? s.heap.objs.size = some ob → (∀ b o, s.heap.get? b = some o → h1.get? b = some o) → Q (.ref (s.heap.objs.size + 1)) { s with heap := h1 }) :
    wpAny (model prog w) A (call (.type "enumerate") [v]) Q E s := by
  refine callType_new F.called_enumerate (by decide) (F.typeCall_enumerate_1 _) (F.newCall_enumerate_1 _) (fun obj => F.args_object_init_2 obj _) F.entry_enumerate_new (enum1_new B) ⟨hz, ?_⟩
  have e1 : (s.heap.push ob).objs.size = s.heap.objs.size + 1 := Heap.size_push ..
  show _ ∧ _
  rw [e1]
  have e2 : IsEnum ((s.heap.push ob).push { cls := .type "enumerate", data := .fields #[.none, .bool false, .ref s.heap.objs.size, rawInt 0, .none, .none] }) (s.heap.objs.size + 1) s.heap.objs.size 0 .none := by
    have z := Heap.get?_push_size (s.heap.push ob) (o := { cls := .type "enumerate", data := .fields #[.none, .bool false, .ref s.heap.objs.size, rawInt 0, .none, .none] }) rfl
    rw [e1] at z
    exact z
  exact ⟨⟨_, e2, rfl⟩, k _ e2 (Heap.get?_push_of_some _ (Heap.get?_push_size _ B.free)) fun b o x => Heap.get?_push_of_some _ (Heap.get?_push_of_some _ x)⟩
end PySem
namespace L2
open PySem PySem.Spec PyProof.Rows
/-! ### enumerate(tuple) -/
def IteT (K : Kf) (a : Addr) : It where
  go i H := ∃ (xs : List V) (x : V), SqT K H a xs ∧ xs[i]? = some x
  yld i H v H' := ∃ T x, v = .ref T ∧ H T = none ∧ H' = upd H T (.tup [.int (i : Nat), x]) ∧ ∀ xs, SqT K H a xs → xs[i]? = some x
  stop i H := ∃ xs : List V, SqT K H a xs ∧ xs.length ≤ i
theorem turn_enumT {P : Program} {w : World} {K : Kf} {elts : List Expr} {kk : Nat} {tpos : Pos} (a e it : Addr) :
    Turn P w K (.Tuple elts kk tpos) (IteT K a) [e, it] e (fun i h => (∃ old, IsEnum h e it ((i : Nat) : Int) old) ∧ h.IsTupleIter it a i ∧ e ≠ it ∧ a ≠ it ∧ a ≠ e) where
  mem := by simp
  obj := fun i h st b hb => by
    obtain ⟨⟨old, he⟩, ⟨o, ho, hc, hd⟩, _⟩ := st
    have e1 : b = e ∨ b = it := by simpa using hb
    rcases e1 with rfl | rfl
    · exact ⟨_, he, fun v q => nomatch q⟩
    · exact ⟨o, ho, fun v q => by rw [hd] at q; cases q⟩
  keep := fun i h h' st k => let ⟨⟨old, he⟩, hi, hn⟩ := st; ⟨⟨old, k e (by simp) _ he⟩, hi.at fun o q => k it (by simp) o q, hn⟩
  item := by
    intro X hP hw hK hc i pins s σ H E I hf st hg
    subst hP hw hK
    obtain ⟨⟨old, he⟩, hit, hne, hai, hae⟩ := st
    obtain ⟨xs, x, hq, hx⟩ := hg
    obtain ⟨its, rv, p, hz⟩ := I.tuple hq
    obtain ⟨u, hu, ru⟩ := rv.get hx
    have hel : e < s.heap.objs.size := Heap.lt_size he
    have hil : it < s.heap.objs.size := by obtain ⟨_, q, _⟩ := hit; exact Heap.lt_size q
    have hh : X.A.handled = none := I.ok.hd hc
    have hlt : i < its.toArray.size := by
      have := (List.getElem?_eq_some_iff.mp hu).1
      simpa using this
    refine wpAny_pyNext_enum_itemD (Draws.tuple (A := X.A.in1) hh it a hai its.toArray) he ⟨hit, p⟩ hlt hne (by simp [hne, Ne.symm hae]) fun y h1 tk hy ho st1 hT hsz hk => ?_
    have hyu : y = u := by
      have hy' : its.toArray[i]? = some y := hy
      rw [List.getElem?_toArray, hu] at hy'
      exact (Option.some.inj hy').symm
    subst hyu
    refine ⟨_, rfl, wpAny_letOwnedTupleGo_enum (s := { s with heap := h1, toks := tk + 1 }) ho fun h2 he2 sb => ?_⟩
    have hT2 : h2.get? s.heap.objs.size = some { cls := .type "tuple", data := .seq #[.int i tk, y] } := (sb.2 _ (Nat.ne_of_gt hel)).trans hT
    have new : ObjOk X.prog X.w (upd H s.heap.objs.size (.tup [.int (i : Nat), x])) h2 s.heap.objs.size (.tup [.int (i : Nat), x]) :=
      ⟨by show 2 ≤ sizeLine; decide, [.int i tk, y], .cons ⟨_, rfl⟩ (.cons ru .nil), ⟨_, hT2, rfl, _, rfl⟩⟩
    have I1 : Inv X pins σ (upd H s.heap.objs.size (.tup [.int (i : Nat), x])) { s with heap := h2, toks := tk + 1 } :=
      I.turnedNew (ch := [e, it]) (fun b ob hb q => (sb.2 b (fun z => hb (by simp [z]))).trans (hk b ob (fun z => hb (by simp [z])) (fun z => hb (by simp [z])) q)) hf (Nat.le_refl _) new
    refine ⟨.ref s.heap.objs.size, _, I1, rfl, ⟨_, x, rfl, I.hok.fresh (Nat.le_refl _), rfl, fun ys hy => by rw [I.tuple_inj hy hq]; exact hx⟩, ⟨⟨y, ?_⟩, st1.1.at fun o q => (sb.2 it (Ne.symm hne)).trans q, hne, hai, hae⟩, fun b hb => ?_⟩
    · have e1 : ((i + 1 : Nat) : Int) = (i : Int) + 1 := by omega
      rw [e1]; exact he2
    · have hb' : b < s.heap.objs.size := by
        have e1 : b = e ∨ b = it := by simpa using hb
        rcases e1 with rfl | rfl
        · exact hel
        · exact hil
      rw [upd_ne (Nat.ne_of_lt hb')]
      exact (hf b hb).1
  done := by
    intro X hP hw hK hc i pins s σ H E I hf st hg
    subst hP hw hK
    obtain ⟨⟨old, he⟩, hit, hne, hai, hae⟩ := st
    obtain ⟨xs, hq, hx⟩ := hg
    obtain ⟨its, rv, p, hz⟩ := I.tuple hq
    obtain ⟨f0, f1, f2, f3, f4, f5⟩ := hf it (by simp)
    have hl := rv.length
    have hh : X.A.handled = none := I.ok.hd hc
    have hT : s.TypeIs (.ref e) "enumerate" := ⟨_, he, rfl⟩
    unfold pyNext
    refine wpAny_bind (wpAny_attempt (wpAny_callSpecial?_slot (name := Str.ofString "__next__") hT F.slot_enumerate_next
      (wpAny_call_entry F.slot_enumerate_next hT F.entry_enumerate_next ?_ (F.args_enumerate_next_1 _))))
    show wpAny _ _ (field (.ref e) 2 >>= _) _ _ _
    refine wpAny_bind (wpAny_field he rfl (x := .ref it) rfl ?_)
    refine wpAny_bind (wpAny_nextOf_tuple_end (items := its.toArray) hh hit p (Array.getElem?_eq_none (by simp; omega)) fun h1 x he1 hx1 => ?_)
    obtain ⟨o, ho, hc'⟩ := hx1
    refine wpAny_bind (wpAny_isInstance (T := "StopIteration") (b := true) ⟨o, ho, hc'⟩ isSubtype_stop ?_)
    exact wpAny_pure ⟨rfl, I.turned (t' := s.toks) (fun b o hb q => he1 b o hb q) f0 f1 f3 f4 f5⟩
  self := fun A i s Q E st h => let ⟨⟨_, he⟩, _⟩ := st; wpAny_pyIter_enum he h
def iEnumT (K : Kf) (te : TE) : TI := fun σ H R => te σ H fun v H1 => ∃ a xs, v = .ref a ∧ SqT K H1 a xs ∧ R (IteT K a) H1
theorem pi_enumT {X : Cx} {e : Expr} {te : TE} {p pos tpos : Pos} {elts : List Expr} {kk : Nat} (hg : Gl X "enumerate") (hm : X.mg "enumerate" = none) (he : PE X e te) (hs : starEach [e] X.env = (false, eval e X.env) :: starEach [] X.env := by rfl) :
    PI X (.Tuple elts kk tpos) (.Call (.Name "enumerate" p) [e] [] pos) (iEnumT X.K te) := by
  refine ⟨fun pins s σ H R I h => ?_⟩
  refine Call_ (ld_blt I hg hm boot_enumerate (PyProof.Rows.callWith_type1 (args_cons (thn (he.run pins s σ H _ I h) fun u s1 ⟨v, H1, I1, r1, q1⟩ => args_nil ?_) hs) hs rfl))
  obtain ⟨a, xs, ev, hq, q⟩ := q1
  subst ev
  obtain rfl : u = Value.ref a := r1
  obtain ⟨its, rv, p', hz⟩ := I1.tuple hq
  refine enum1_call (begins_tuple a its.toArray) p' fun h1 he1 hit hk => wpAny_pyIter_enum he1 ?_
  have I2 : Inv X pins σ H1 { s1 with heap := h1 } := I1.kept (t' := s1.toks) hk
  have hal : a < s1.heap.objs.size := by obtain ⟨o, ho, _⟩ := p'; exact Heap.lt_size ho
  refine ⟨s1.heap.objs.size + 1, [s1.heap.objs.size + 1, s1.heap.objs.size], _, _, H1, rfl, I2, turn_enumT a (s1.heap.objs.size + 1) s1.heap.objs.size, ⟨⟨.none, he1⟩, ⟨_, hit, rfl, rfl⟩, Nat.succ_ne_self _, Nat.ne_of_lt hal, Nat.ne_of_lt (Nat.lt_succ_of_lt hal)⟩, fun b hb => ?_, q⟩
  have e1 : b = s1.heap.objs.size + 1 ∨ b = s1.heap.objs.size := by simpa using hb
  have hle : s1.heap.objs.size ≤ b := by
    rcases e1 with z | z
    · rw [z]; exact Nat.le_add_right _ _
    · rw [z]; exact Nat.le_refl _
  exact I1.fpOk hle (I1.hok.fresh hle)
end L2

namespace L2
open PySem PySem.Spec PyProof.Rows
/-! ### [e for i, x in enumerate(tuple)] -/
def enumD (ds : List D) : List D := ds.zipIdx.map fun p => .tuple [.int p.2, p.1]
theorem enumD_len (ds : List D) : (enumD ds).length = ds.length := by simp [enumD]
theorem enumD_get {ds : List D} {i : Nat} {d : D} (h : (enumD ds)[i]? = some d) : ∃ e, ds[i]? = some e ∧ d = .tuple [.int i, e] := by
  unfold enumD at h
  rw [List.getElem?_map] at h
  cases q : ds.zipIdx[i]? with
  | none => rw [q] at h; cases h
  | some p =>
    rw [q] at h
    cases h
    rw [List.getElem?_zipIdx] at q
    cases q2 : ds[i]? with
    | none => rw [q2] at q; cases q
    | some e =>
      rw [q2] at q
      cases q
      exact ⟨e, rfl, by simp⟩
section
variable {K : Kf} {a : Addr} {ds : List D}
theorem walks_enum : Walks K (IteT K a) (fun H L => ∃ xs, SqT K (hid H L) a xs ∧ DqAll K (hid H L) xs ds) (enumD ds) where
  go := fun i H L ⟨xs, hs, hd⟩ hi => by
    rw [enumD_len, ← hd.length] at hi
    exact ⟨xs, xs[i], sqT_mono hid_same hs, List.getElem?_eq_getElem hi⟩
  stop := fun i H L ⟨xs, hs, hd⟩ hi => ⟨xs, sqT_mono hid_same hs, by rw [hi, enumD_len, hd.length]; exact Nat.le_refl _⟩
  yld := fun i H L x H' d ⟨xs, hs, hd⟩ he hy w => by
    obtain ⟨T, y, rfl, hn, rfl, hx⟩ := hy
    obtain ⟨e, h1, rfl⟩ := enumD_get he
    obtain ⟨v, h2, h3⟩ := hd.get h1
    have h4 := hx xs (sqT_mono hid_same hs)
    rw [h2] at h4
    cases h4
    have s := same_new (o := .tup [.int (i : Nat), y]) hn
    have nT : T ∉ L := fun z => by
      rcases w T z with ⟨xs, q⟩ | ⟨kvs, q⟩ <;> (rw [hn] at q; cases q)
    refine ⟨s, .tup (.of ?_) (.cons (.int _) (.cons (Dq.mono (hid_mono s) _ h3) .nil))⟩
    rw [hid_out nT]
    exact upd_same
end
/-- over enumerate of a tuple -/
noncomputable def mLcE (tg : Tg) (vs : List Nat) (mi : M SV) (mc : M Bool) (me : M SV) : M SV := mbind (mfrz mi) fun sv en => match sv with
  | .d (.tuple ds) => mComp tg vs mc me (enumD ds) en
  | _ => .stuck
section
variable {X : Cx} {G : Gs} {elt t iter : Expr} {ifs : List Expr} {scope : Scope} {own : List (Str × Nat)} {mi me : M SV} {mc : M Bool} {tg : Tg} {pos : Pos} {tt : TT} {te : TE}
theorem lcE_imp (hsub : ∀ j ∈ tg.slots, j ∈ own.map (·.2)) (ht : ∀ (D0 : Addr) (xs : List V) (σ' : St) (H' : Hp) Q, tT (G.blk D0 xs) mc σ' H' Q → tt σ' H' Q) (he : ∀ (D0 : Addr) (xs : List V) (σ' : St) (H' : Hp) Q, tE (G.blk D0 xs) (mkeep me) σ' H' Q → te σ' H' Q)
    (σ : St) (H : Hp) (Q : VK) (h : tE G (mLcE tg (own.map (·.2)) mi mc me) σ H Q) : tLc (iEnumT G.K (tE G (mfrz mi))) (gOf G.K tg) tt te (own.map (·.2)) σ H Q := by
  obtain ⟨en, L, R, q⟩ := h
  refine (seqE R q).mono fun v H1 ⟨en1, L1, sv, R1, s1, r1, q1⟩ => ?_
  cases sv with
  | own _ => exact q1.elim
  | bor i => exact q1.elim
  | d d =>
    cases d with
    | tuple ds =>
      cases r1 with
      | tup hs ha => exact ⟨_, _, rfl, sqT_mono hid_same hs, comp_run walks_enum R1 q1 hsub (fun G' H' L' hK R' s' => ⟨_, sqT_mono s' hs, DqAll.mono s' _ ha⟩) ht he⟩
    | _ => exact q1.elim
theorem je_lcE {elts : List Expr} {kk : Nat} {tpos p pos' : Pos} (hc : X.calm = true) (hN : X.N.Nodup) (hK : X.K = G.K) (hgl : Gl X "enumerate") (hm : X.mg "enumerate" = none) (hi : PE X iter (tE G mi)) (ok : BlkOk X.N X.env.scope scope own) (B : InBlk X G scope (.Tuple elts kk tpos) elt ifs tg mc me) (hsub : ∀ j ∈ tg.slots, j ∈ own.map (·.2))
    (hse : starEach [iter] X.env = (false, eval iter X.env) :: starEach [] X.env := by rfl) (hs : ∀ x, foldedSetIterable (.Call (.Name "enumerate" p) [iter] [] pos') X.env x = pure x := by intro _; rfl) : PE X (.ListComp elt [⟨.Tuple elts kk tpos, .Call (.Name "enumerate" p) [iter] [] pos', ifs, 0⟩] scope pos) (tE G (mLcE tg (own.map (·.2)) mi mc me)) :=
  (pe_lc (tt := exT G mc) (te := exE G me) hc hN (pi_enumT hgl hm (je_frz hi) hse) ok B.g (fun s H C cl fp => PTs.ex fun p => B.c s H C cl fp p.1 p.2) (fun s H C cl fp => PE.ex fun p => je_keep (B.e s H C cl fp p.1 p.2)) hs).imp fun σ H Q h => by
    rw [hK]
    exact lcE_imp hsub (fun D0 xs _ _ _ q => ⟨(D0, xs), q⟩) (fun D0 xs _ _ _ q => ⟨(D0, xs), q⟩) σ H Q h
end
end L2

namespace L2
open PySem PySem.Spec PyProof.Rows
/-! ### sorted(set(tuple of ints)) -/
section
variable {X : Cx}
def rSetI (K : Kf) (w : World) : List V → Hp → VK → Prop := fun vs H Q => ∃ (p : Addr) (ns : List Int), vs = [.ref p] ∧ SqT K H p (ns.map V.int) ∧ ns.length ≤ 62 ∧ ∀ q n, n ≤ ns.length → H q = none → Q (.ref q) (upd H q (SetO w q (fun j => decide (j ∈ ns)) n))
theorem cr_setI (hc : X.calm = true) : CallR X (.type "set") (rSetI X.K X.w) := by
  intro pins s σ H vs us Q I r h
  obtain ⟨p, ns, rfl, hq, hl, q⟩ := h
  obtain ⟨its, rv, pt, hz⟩ := I.tuple hq
  have hi : IntsAre its.toArray.toList ns := ints_of_vals rv
  rw [Vals.ref1 r]
  refine call_set_tupI ns (I.ok.hd hc) (show s.heap.IsTuple p its.toArray from pt) hi (by unfold scanBound; omega) fun h' tk c R1 hcn k => ?_
  exact ⟨.ref _, upd H s.heap.objs.size (SetO X.w s.heap.objs.size (fun j => decide (j ∈ ns)) c), I.laid (t' := tk) (fun b o e => k b o e) (Nat.le_refl _) (setO_new R1), rfl, q _ c hcn (I.hok.fresh (Nat.le_refl _))⟩
end
@[simp] theorem intsOf_map : ∀ is : List Int, intsOf (is.map .int) = some is
  | [] => rfl
  | i :: r => by rw [List.map_cons, intsOf, intsOf_map r]; rfl
/-- the members, each once, ascending -/
def sortI (is : List Int) : List Int := is.eraseDups.mergeSort (fun a b => decide (a ≤ b))
theorem asc_uniq : ∀ {a b : List Int}, a.Pairwise (· < ·) → b.Pairwise (· < ·) → (∀ k, k ∈ a ↔ k ∈ b) → a = b
  | [], [], _, _, _ => rfl
  | [], y :: _, _, _, h => absurd ((h y).mpr List.mem_cons_self) List.not_mem_nil
  | x :: _, [], _, _, h => absurd ((h x).mp List.mem_cons_self) List.not_mem_nil
  | x :: a, y :: b, pa, pb, h => by
    have pa' := List.pairwise_cons.mp pa
    have pb' := List.pairwise_cons.mp pb
    have e : x = y := by
      have h1 := (h x).mp List.mem_cons_self
      have h2 := (h y).mpr List.mem_cons_self
      rcases List.mem_cons.mp h1 with e | m1
      · exact e
      · rcases List.mem_cons.mp h2 with e | m2
        · exact e.symm
        · have := pa'.1 _ m2
          have := pb'.1 _ m1
          omega
    subst e
    rw [asc_uniq pa'.2 pb'.2 fun k => ?_]
    constructor
    · intro m
      rcases List.mem_cons.mp ((h k).mp (List.mem_cons_of_mem _ m)) with e | m'
      · have := pa'.1 _ m; omega
      · exact m'
    · intro m
      rcases List.mem_cons.mp ((h k).mpr (List.mem_cons_of_mem _ m)) with e | m'
      · have := pb'.1 _ m; omega
      · exact m'
theorem nodup_dedupI : ∀ (n : Nat) (xs : List Int), xs.length ≤ n → xs.eraseDups.Nodup
  | _, [], _ => by rw [List.eraseDups_nil]; exact .nil
  | 0, _ :: _, h => by simp at h
  | n + 1, x :: r, h => by
    rw [List.eraseDups_cons]
    refine List.nodup_cons.mpr ⟨fun m => ?_, nodup_dedupI n _ (Nat.le_trans (List.length_filter_le _ _) (by simpa using h))⟩
    have := List.mem_filter.mp (List.mem_eraseDups.mp m)
    simp at this
theorem sortI_mem (is : List Int) (k : Int) : k ∈ sortI is ↔ k ∈ is := by
  unfold sortI
  rw [List.mem_mergeSort, List.mem_eraseDups]
theorem sortI_asc (is : List Int) : (sortI is).Pairwise (· < ·) := by
  have h1 : (sortI is).Pairwise fun a b => decide (a ≤ b) = true := List.pairwise_mergeSort (fun a b c x y => by simp at *; omega) (fun a b => by simp; omega) _
  have h2 : (sortI is).Nodup := (List.mergeSort_perm _ _).nodup_iff.mpr (nodup_dedupI _ is (Nat.le_refl _))
  exact (h1.and h2).imp fun {a b} h => by
    have := of_decide_eq_true h.1
    have := h.2
    omega
theorem sortI_uniq {ns is : List Int} (p : ns.Pairwise (· < ·)) (m : ∀ k, k ∈ ns ↔ k ∈ is) : ns = sortI is :=
  asc_uniq p (sortI_asc is) fun k => (m k).trans (sortI_mem is k).symm
theorem sortI_self {is : List Int} (p : is.Pairwise (· < ·)) : sortI is = is := (sortI_uniq p fun _ => Iff.rfl).symm
def siD : D → Option (List Int)
  | .tuple ds => match intsOf ds with
    | some is => if is.length ≤ 62 then some (sortI is) else none
    | none => none
  | _ => none
def mSortSetI (m : M SV) : M SV := mbind (mfrz m) fun sv en => match look en sv with
  | some d => match siD d with
    | some is => .ok (.own (.lst (is.map .int))) en
    | none => .stuck
  | none => .stuck
section
variable {X : Cx} {G : Gs} {e : Expr} {m : M SV} {p p2 pos pos2 : Pos}
theorem je_sortedSetI (hc : X.calm = true) (hK : X.K = G.K) (h1 : Gl X "sorted") (h2 : X.mg "sorted" = none) (h3 : Gl X "set") (h4 : X.mg "set" = none) (he : PE X e (tE G m))
    (e1 : starEach [.Call (.Name "set" p2) [e] [] pos2] X.env = (false, eval (.Call (.Name "set" p2) [e] [] pos2) X.env) :: starEach [] X.env := by rfl) (e2 : starEach [e] X.env = (false, eval e X.env) :: starEach [] X.env := by rfl) :
    PE X (.Call (.Name "sorted" p) [.Call (.Name "set" p2) [e] [] pos2] [] pos) (tE G (mSortSetI m)) :=
  (pe_callB (cr_sortedSet hc) h1 h2 (by decide +kernel) (pa_cons (pe_callTy (cr_setI hc) h3 h4 (by decide +kernel) (pa_cons (je_frz he) pa_nil e2) (he := e2)) pa_nil e1) (he := e1)).imp fun σ H Q h => by
    obtain ⟨en, L, R, q⟩ := h
    refine (seqE R q).mono fun x H1 ⟨en1, L1, sv, R1, s1, r1, q1⟩ => ?_
    cases e1 : look en1 sv with
    | none => rw [e1] at q1; exact q1.elim
    | some d =>
      rw [e1] at q1
      dsimp only at q1
      cases e2 : siD d with
      | none => rw [e2] at q1; exact q1.elim
      | some zs =>
        rw [e2] at q1
        dsimp only at q1
        have o := RV.opd R1 (Same.refl _) r1 e1
        unfold siD at e2
        split at e2
        · rename_i ds
          split at e2
          · rename_i xs e3
            split at e2
            · rename_i hl
              cases e2
              have e4 := intsOf_eq e3
              subst e4
              obtain ⟨a, ys, rfl, ho, hr⟩ := o.tuple
              have e5 := dqAll_ints hr
              subst e5
              refine ⟨a, xs, rfl, by rw [hK]; exact ho, hl, fun b n hn hb => ?_⟩
              refine ⟨b, _, n, rfl, upd_same, by omega, fun ys p nd hm hle hp => ?_⟩
              have e6 : ys = sortI xs := sortI_uniq nd fun k => (hm k).trans (by simp)
              subst e6
              have R2 := R1.grow (same_new (o := SetO X.w b (fun j => decide (j ∈ xs)) n) hb)
              have s2 := hid_mono (L := L1) (same_new (o := SetO X.w b (fun j => decide (j ∈ xs)) n) hb)
              exact post_lst R2 hp (ints_dq _) (q1.from s2)
            · cases e2
          · cases e2
        · cases e2
end
end L2

namespace L2
open PySem PySem.Spec PyProof.Rows
/-! ### {} -/
section
variable {X : Cx} {G : Gs} {pos : Pos}
theorem post_dct {H : Hp} {L : List Addr} {σ : St} {en : En} {Q : VK} {p : Addr} {kvs : List (Key × V)} {kds : List (Key × D)} (R : RelS G L σ H en) (n : H p = none) (h : KD G.K (hid H L) kvs kds) (q : PostE G σ H L (.ok (.own (.dct kds)) en) Q) : Q (.ref p) (upd H p (.dK kvs)) :=
  q _ _ (p :: L) (R.hide n (.inr ⟨kvs, rfl⟩)) (hid_new n) ⟨p, .dK kvs, rfl, List.mem_cons_self, R.fresh_base n, upd_same, KD.mono (hid_new n) h, own_out R (R.fresh_out n)⟩
theorem je_dnew : PE X (.Dict [] [] pos) (tE G (mpure (.own (.dct [])))) := pe_dnewK.imp fun σ H Q ⟨en, L, R, q⟩ => fun p n => post_dct R n .nil q
end
/-! ### k in d -/
def rInDct : R2 := fun x y H Q => ∃ a o, y = .ref a ∧ DGet H a x o ∧ Q (.bl o.isSome) H
def rNotInDct : R2 := fun x y H Q => ∃ a o, y = .ref a ∧ DGet H a x o ∧ Q (.bl (!o.isSome)) H
section
variable {X : Cx} {G : Gs}
theorem op_inDct (hu : X.A.units + 1 < cLine) : OpR X (compareOp .In) rInDct := by
  intro pins s σ H x y v u Q I rx ry h
  obtain ⟨a, o, rfl, g, q⟩ := h
  obtain rfl : u = Value.ref a := ry
  exact d_in hu I g rx fun s3 I3 => ⟨.bl o.isSome, H, I3, rfl, q⟩
theorem op_notInDct (hu : X.A.units + 1 < cLine) : OpR X (compareOp .NotIn) rNotInDct := by
  intro pins s σ H x y v u Q I rx ry h
  obtain ⟨a, o, rfl, g, q⟩ := h
  obtain rfl : u = Value.ref a := ry
  exact d_notIn hu I g rx fun s3 I3 => ⟨.bl (!o.isSome), H, I3, rfl, q⟩
/-- keys of what the layer has for a dict -/
def keysD : List (D × D) → Option (List Key)
  | [] => some []
  | (a, _) :: r => match keyD a, keysD r with
    | some k, some ks => some (k :: ks)
    | _, _ => none
theorem keyD_kD (a : Key) : keyD (kD a) = some a := by cases a <;> rfl
theorem keysD_map : ∀ kds : List (Key × D), keysD (kds.map fun p => (kD p.1, p.2)) = some (kds.map (·.1))
  | [] => rfl
  | p :: r => by rw [List.map_cons, keysD, keyD_kD, keysD_map r]; rfl
def inK (x y : D) : Option Bool := match y with
  | .dict kds => match keyD x, keysD kds with
    | some k, some ks => some (ks.any fun j => decide (j = k))
    | _, _ => none
  | _ => none
def dInK (x y : D) : M SV := bvD (inK x y)
def dNinK (x y : D) : M SV := bvD ((inK x y).map (!·))
theorem valV_keys {K : Kf} {H : Hp} {k : Key} : ∀ {kvs : List (Key × V)} {kds : List (Key × D)}, KD K H kvs kds → (valV kvs k).isSome = (kds.map (·.1)).any fun j => decide (j = k)
  | _, _, .nil => rfl
  | p :: _, q :: _, .cons ⟨h1, h2⟩ t => by
    have ih := valV_keys (k := k) t
    rw [List.map_cons, List.any_cons, ← ih, ← h1]
    by_cases h : p.1 = k
    · rw [valV_pos h]
      simp [h]
    · rw [valV_neg h]
      simp [h]
theorem inK_rule {H : Hp} {L : List Addr} {x y : V} {dx dy : D} {b : Bool} (ox : Opd G.K H L x dx) (oy : Opd G.K H L y dy) (e : inK dx dy = some b) : ∃ a o, y = .ref a ∧ DGet H a x o ∧ o.isSome = b := by
  unfold inK at e
  split at e
  · rename_i kds
    split at e
    · rename_i k ks e1 e2
      cases e
      obtain ⟨rfl, _⟩ := key_of_D ox e1
      rcases oy.dct with ⟨a, ns, rfl, e3, hs⟩ | ⟨a, kvs, ks', rfl, e3, ho, hk⟩
      · subst e3
        simp [keysD, keyD] at e2
      · subst e3
        rw [keysD_map] at e2
        cases e2
        exact ⟨a, valV kvs k, rfl, DGet.k ho, valV_keys hk⟩
    · cases e
  · cases e
theorem fit_inK : Fits2 G rInDct dInK := by
  intro σ H L en x y dx dy Q R ox oy q
  unfold dInK bvD at q
  cases e : inK dx dy with
  | none => rw [e] at q; exact q.elim
  | some b =>
    rw [e] at q
    obtain ⟨a, o, h1, h2, h3⟩ := inK_rule ox oy e
    exact ⟨a, o, h1, h2, by rw [h3]; exact post_d R (.bl _) q⟩
theorem fit_ninK : Fits2 G rNotInDct dNinK := by
  intro σ H L en x y dx dy Q R ox oy q
  unfold dNinK bvD at q
  cases e : inK dx dy with
  | none => rw [e] at q; exact q.elim
  | some b =>
    rw [e] at q
    obtain ⟨a, o, h1, h2, h3⟩ := inK_rule ox oy e
    exact ⟨a, o, h1, h2, by rw [h3]; exact post_d R (.bl _) q⟩
end
/-! ### d.update(e), e a new dict -/
def mergeD (kds more : List (Key × D)) : List (Key × D) := more.foldl (fun acc kv => putD acc kv.1 kv.2) kds
theorem KD.merge {K : Kf} {H : Hp} : ∀ {mv : List (Key × V)} {md : List (Key × D)} {kvs : List (Key × V)} {kds : List (Key × D)}, KD K H mv md → KD K H kvs kds → KD K H (mergeK kvs mv) (mergeD kds md)
  | _, _, _, _, .nil, h => h
  | p :: _, q :: _, _, _, .cons ⟨h1, h2⟩ t, h => by
    show KD K H (mergeK (putK _ p.1 p.2) _) (mergeD (putD _ q.1 q.2) _)
    rw [h1]
    exact KD.merge t (h.put h2)
def tUpd (td te : TE) : TE := fun σ H Q => td σ H fun x H1 => ∃ a, x = .ref a ∧ IsD H1 a ∧ te σ H1 fun y H2 => ∃ b kvs more, y = .ref b ∧ a ≠ b ∧ H2 a = some (.dK kvs) ∧ H2 b = some (.dK more) ∧ kvs.length + more.length ≤ sizeLine ∧ Q .non (upd H2 a (.dK (mergeK kvs more)))
section
variable {X : Cx} {G : Gs} {o e : Expr} {td te : TE} {apos cpos pos : Pos}
theorem d_upd {pins : List (Addr × Obj)} {σ : St} {H : Hp} {s : Shared} {a b : Addr} {kvs more : List (Key × V)} {Q : Value → Shared → Prop} (I : Inv X pins σ H s) (hab : a ≠ b) (ha : H a = some (.dK kvs)) (hb : H b = some (.dK more)) (hz : kvs.length + more.length ≤ sizeLine)
    (k : ∀ s', Inv X pins σ (upd H a (.dK (mergeK kvs more))) s' → Q .none s') : wpAny (model X.prog X.w) X.A (call (.builtin "dict.update") [.ref a, .ref b]) Q X.xe s := by
  obtain ⟨z1, m1, vs, r1, dd1⟩ := dk_of I.hok ha
  obtain ⟨z2, m2, ws, r2, dd2⟩ := dk_of I.hok hb
  refine call_meetsIn PySem.F.slot_dict_update dd1.typeIs PySem.F.entry_dict_update (PySem.F.args_dict_update_2 _ _) (meets_dict_update (mixKind X.prog X.w) a b hab m2) ⟨vs, ws, dd1, dd2, by rw [← r1.length, ← r2.length]; exact hz, fun h' d1 d2 sb => k _ ?_⟩
  have he : ∃ q, h'.get? a = some q := let ⟨q, _, _, hq, _⟩ := d1; ⟨q, hq⟩
  exact d_write (t' := s.toks) I (by rw [ha]; exact True.intro) sb he (dk_new (Nat.le_trans (length_mergeK _ _) hz) m1 (KV.merge r2 r1) d1)
theorem pe_upd (ho : PE X o td) (he : PE X e te) (m : M1 X o "update" apos e cpos) : PE X (.Call (.Attribute o "update" apos) [e] [] cpos) (tUpd td te) := by
  refine ⟨fun pins s σ H Q I h => ?_⟩
  refine wpAny_Call_method m.base m.few m.line PySem.F.plainAttrs_dict PySem.F.slot_dict_update PySem.F.type_dict_update (thn (ho.run pins s σ H _ I h) fun u s1 ⟨x, H1, I1, rx, a, ex, d, q1⟩ => ?_)
  subst ex
  obtain rfl : u = Value.ref a := rx
  obtain ⟨t1, t2, _⟩ := isD_at I1 d
  refine ⟨t1, t2, ?_⟩
  rw [m.trees]
  refine Calls.callWith_builtin rfl (Calls.evalArgs_plain (Calls.spliced_cons (thn (he.run pins s1 σ H1 _ I1 q1) fun iv s2 ⟨y, H2, I2, ry, b, kvs, more, ey, hab, ha, hb, hz, q2⟩ => Calls.spliced_nil ?_)))
  subst ey
  obtain rfl : iv = Value.ref b := ry
  exact d_upd I2 hab ha hb hz fun s3 I3 => ⟨.non, _, I3, rfl, q2⟩
/-- the dict of slot i takes what a new dict has -/
def mUpd (i : Nat) (me : M SV) : M Ct := fun en => match en[i]? with
  | some (some (.own (.dct _))) => mbind me (fun sv en => match sv, en[i]? with
    | .own (.dct more), some (some (.own (.dct kds))) => if kds.length + more.length ≤ sizeLine then .ok .nx (en.set i (some (.own (.dct (mergeD kds more))))) else .stuck
    | _, _ => .stuck) en
  | _ => .stuck
theorem js_upd (i : Nat) {x : Str} {p : Pos} {me : M SV} (hN : X.N[i]? = some x) (hv : Vis X.env.scope x) (he : PE X e (tE G me)) (m : M1 X (.Name x p) "update" apos e cpos) (hd : (x == ("__debug__" : Str)) = false := by decide) (hcd : (x == ("__classdict__" : Str)) = false := by decide)
    (hs : swapsWith (.Call (.Attribute (.Name x p) "update" apos) [e] [] cpos) none pos.line X.env = pure false := by rfl) :
    PS X (.Expr (.Call (.Attribute (.Name x p) "update" apos) [e] [] cpos) pos) (tS G [] (mUpd i me)) := (ps_expr (pe_upd (pe_var hN hv hd hcd) he m) hs).imp fun E σ H h => by
  obtain ⟨en, L, R, q⟩ := h
  unfold mUpd at q
  split at q
  · rename_i kds0 e0
    obtain ⟨a, kvs0, e1, m0, ho0, hr0⟩ := slot_dct R e0
    refine ⟨.ref a, e1, a, rfl, .inl ⟨kvs0, .inl ho0⟩, ?_⟩
    refine (seqES R q).mono fun y H1 ⟨en1, L1, sv, R1, s1, r1, q1⟩ => ?_
    split at q1
    · rename_i more kds e2
      obtain ⟨a', kvs, e3, m1, ho, hr⟩ := slot_dct R1 e2
      rw [e1] at e3
      cases e3
      obtain ⟨b, ob, rfl, mb, nb, hob, hrb, nob⟩ := r1
      split at q1
      · rename_i hz
        cases ob with
        | dK mv =>
          have hab : a ≠ b := fun z => nob i _ e2 (by rw [← z]; exact e1)
          have hk : KD G.K (hid H1 L1) mv more := hrb
          refine ⟨b, kvs, mv, rfl, hab, ho, hob, by rw [hr.length, hk.length]; exact hz, ?_⟩
          exact q1 σ _ L1 (R1.put e2 e1 m1 (b' := .dct (mergeD kds more)) (KD.merge hk hr)) (by rw [hid_upd m1]; exact Same.refl _) Keeps.refl
        | _ => exact hrb.elim
      · exact q1.elim
    · exact q1.elim
  · exact q.elim
end
end L2

namespace L2
open PySem PySem.Spec PyProof.Rows
/-! ### a def's promise at one surrounding -/
/-- as FnOk, where the call stands in A -/
structure FnAt (A : Around) (P : Program) (w : World) (K : Kf) (mg : Str → Option Value) (base : Heap) (CX : CXT) (f : Addr) (fd : FuncData) (ps : List Str) (sp : Sp) : Prop where
  run : ∀ (outer : List Env) (s : Shared) (H : Hp) (args : Args) (us : List Value) (vs : List V) (Q : VK) (E : XK), Env0 P w K mg base A outer s H → BindsTo s fd args (ps.zip us) → Vals vs us → sp vs H Q E → codeAny (model P w) A (.call (.ref f) args) (CR CX outer P w H s Q E) s
section
variable {A : Around} {P : Program} {w : World} {K : Kf} {mg : Str → Option Value} {base : Heap}
theorem fn_at {CX : CXT} {k : Nat} {x qual : Str} {st : Stmt} {f : Addr} {fd : FuncData} {N ps : List Str} {sp : Sp} (F : Fun K x qual st f fd) (S : FnScope N ps (defScope st)) (hr : Room (k + 1) A) (len : ∀ vs H Q E, sp vs H Q E → vs.length = ps.length)
    (body : ∀ (cdv : Value) (outer : List Env) (s : Shared) (H : Hp) (vs : List V) (Q : VK) (E : XK), Room k (A.deeper (envOfC qual (defScope st) s.heap.objs.size f cdv)) → sp vs H Q E →
      ∃ t, PSs (cxOf CX P w K mg base N qual (defScope st) f cdv A outer s H E) (defBody st) t ∧ t { nx := fun _ H' => Q .non H', rt := Q } (start N vs) H) : FnAt A P w K mg base CX f fd ps sp where
  run := fun outer s H args us vs Q E e0 hb rv hsp => by
    obtain ⟨oc, od, kV, doc, pm, an, cdv, ct, osl, rfl, lk, hcd⟩ := F.ex
    have hl := len _ _ _ _ hsp
    have KX : K.In s.heap := e0.mod.kin.keeps fun b o q => (e0.bs b o q).1
    have nl : s.heap.NoLimit := e0.mod.nolimit.keeps fun b o q => (e0.bs b o q).1
    refine codeAny_call_function hr.depth (KX _ _ lk) rfl S.co S.gen rfl (PySem.W.codeRec_of KX hcd) (hb _ _ _ _ ?_)
    refine wpAny_newFunctionEnv_cells S.kind (fun ⟨n, v⟩ hy => ?_) fun env he s1 z => ?_
    · rcases S.par n (List.of_mem_zip hy).1 with q | q
      · exact .inl q
      · exact .inr ⟨q, PySem.W.cellsFrom_some _ _ _ (.inl q)⟩
    · subst he
      refine ⟨nl.keeps z.toInCall.keep, codeAny_func ?_⟩
      obtain ⟨t, ht, hq⟩ := body cdv outer s H vs Q E (hr.deeper _) hsp
      have I := inv_start (CX := CX) (P := P) (w := w) (K := K) (mg := mg) (base := base) (N := N) (A := A) (E := E) S hr.hd e0 hl rv z
      refine wpAny_mono (ht.run [] s1 (start N vs) H _ I hq) (fun fl s' hs => ?_) fun e s' hs => hs
      cases fl with
      | ret u =>
        obtain ⟨v, σ', H', J, r, q⟩ := hs
        exact ⟨v, H', J.os, J.bare, J.base, J.hok, r, q⟩
      | next =>
        obtain ⟨σ', H', J, q⟩ := hs
        exact ⟨.non, H', J.os, J.bare, J.base, J.hok, rfl, q⟩
      | brk => obtain ⟨_, _, _, q⟩ := hs; exact False.elim q
      | cont => obtain ⟨_, _, _, q⟩ := hs; exact False.elim q
/-- a def whose surrounding is known to have no guard -/
theorem fn_mirG {wr : List Nat} {x qual : Str} {st : Stmt} {f : Addr} {fd : FuncData} {N ps : List Str} {k : Nat} {m : M Ct} (F : Fun K x qual st f fd) (S : FnScope N ps (defScope st)) (hr : Room (k + 1) A) (hg : A.guards = some [])
    (hbody : ∀ (cdv : Value) (outer : List Env) (s : Shared) (H : Hp) (E : XK) (B : List Addr), Room k (A.deeper (envOfC qual (defScope st) s.heap.objs.size f cdv)) → (A.deeper (envOfC qual (defScope st) s.heap.objs.size f cdv)).guards = some [] →
      PSs (cxOf (L2N.CX P w) P w K mg base N qual (defScope st) f cdv A outer s H E) (defBody st) (tS ⟨K, mg, hid H B, fun cls d _ H' => E cls d H', B, H, none⟩ wr m)) :
    FnAt A P w K mg base (L2N.CX P w) f fd ps (spF K mg ps.length (runF ps.length N.length m)) :=
  fn_at F S hr (fun vs H Q E h => h.1) fun cdv outer s H vs Q E hr' h => by
    obtain ⟨B, q⟩ := mir_run (wr := wr) h
    exact ⟨_, hbody cdv outer s H E B hr' hg, q⟩
theorem fn_lawG {f : Addr} {fd : FuncData} {ps : List Str} {F : Fm} (hp : ps.length = 1) (h : FnAt A P w K mg base (L2N.CX P w) f fd ps (spF K mg 1 F))
    (math : ∀ ns : List Int, ns.length ≤ 63 → ∃ en, F [scrD ns] = .ok (.d (.bool true)) en) : FnAt A P w K mg base (L2N.CX P w) f fd ps (spLaw K) where
  run := fun outer s H args us vs Q E he hb hv ⟨a, ns, e, hl, hS, q⟩ => h.run outer s H args us vs Q E he hb hv (by
    subst e
    obtain ⟨en, em⟩ := math ns hl
    refine ⟨rfl, [], [scrD ns], (fun a m => absurd m List.not_mem_nil), .cons (.scr ?_) .nil, ?_⟩
    · rw [hid_nil]; exact hS
    · rw [em]
      intro v H' _ r
      cases r
      exact q H')
/-- the script's own call, from what the law promises in the caller's surrounding -/
theorem lawAt {mb : Str → Option Value} {CX : CXT} {fa a : Addr} {fd : FuncData} {x : Str} {sp : Sp} {t : Shared} {us : List Value} {ns : List Int}
    (kx : K.In t.heap) (nm : t.heap.Ns mainGlobals mg) (nb : t.heap.Ns builtinsNs mb) (bb : ∀ y : Str, y ≠ "__name__" → mb y = bootBuiltins y) (nl : t.heap.NoLimit) (gz : t.gens = #[])
    (ha : t.heap.get? a = some { cls := .type "list", data := .seq us.toArray }) (hi : IntsAre us ns) (hl : ns.length ≤ sizeLine)
    (F : ∀ base : Heap, K.In base → base.Ns mainGlobals mg → FnAt callerA P w K mg base CX fa fd [x] sp) (hb : ∀ (s : Shared) (u : Value), BindsTo s fd ⟨[u], []⟩ [(x, u)])
    (hs : ∀ H : Hp, Only H → SqL K H a (ns.map V.int) → sp [.ref a] H (fun v _ => v = .bl true) fun _ _ _ => False) (hx : ∀ H e s', CX [] H t (fun _ _ _ => False) e s' → False) :
    codeAny (model P w) callerA (.call (.ref fa) ⟨[.ref a], []⟩) (fun r s' => r = .ok (.ret (.bool true)) ∧ OldK t.heap s'.heap ∧ s'.os = t.os ∧ AllBare s'.gens) t := by
  have rv : Vals (ns.map V.int) us := vals_ints hi
  have ll := hi.length
  have go : ∀ H : Hp, Only H → SqL K H a (ns.map V.int) → HOk P w H t.heap → (∀ b, H b ≠ none → b = a) → (H a ≠ none → K.lookup a = none) →
      codeAny (model P w) callerA (.call (.ref fa) ⟨[.ref a], []⟩) (fun r s' => r = .ok (.ret (.bool true)) ∧ OldK t.heap s'.heap ∧ s'.os = t.os ∧ AllBare s'.gens) t := by
    intro H on sq ok one away
    have free : ∀ b, b ≠ a → H b = none := fun b n => Classical.byContradiction fun z => n (one b z)
    have notA : ∀ {b : Addr} {o : Obj} {es : Array DictEntry} {ep : Nat}, t.heap.get? b = some o → o.data = .dict es ep → H b = none := fun {b o es ep} q d => by
      refine free b fun z => ?_
      subst z
      rw [ha] at q
      cases q
      exact nomatch d
    have ns1 : ∀ {b : Addr} {m : Str → Option Value}, t.heap.Ns b m → (hidT t.heap H).Ns b m := fun ⟨o, es, ep, q, d, r⟩ => ⟨o, es, ep, hidT_get q (notA q d), d, r⟩
    have k1 : K.In (hidT t.heap H) := fun b o q => hidT_get (kx b o q) (Classical.byContradiction fun z => by
      have e := one b z
      subst e
      rw [away z] at q
      cases q)
    obtain ⟨mc, n1, n2⟩ := nl
    have md : Mod K mg (hidT t.heap H) := ⟨k1, ns1 nm, ⟨mb, ns1 nb, bb⟩, mc, ns1 n1, n2⟩
    have e0 : Env0 P w K mg (hidT t.heap H) callerA [] t H := ⟨rfl, md, fun b o q => of_hidT q, Nat.le_of_eq (hidT_size _ _), trivial, fun b m => absurd (show b ∈ ([] : List Addr) from m) List.not_mem_nil, ok, .of_eq gz⟩
    refine codeAny_mono ((F _ k1 (ns1 nm)).run [] t H ⟨[.ref a], []⟩ [.ref a] [.ref a] _ _ e0 (hb t (.ref a)) (.cons rfl .nil) (hs H on sq)) fun r s' h => ?_
    match r, h with
    | .error e, h => exact (hx H e s' h).elim
    | .ok (.ret u), ⟨v, H', os, bare, un, ok', r', q⟩ =>
      have q' : v = .bl true := q
      subst q'
      obtain rfl : u = Value.bool true := r'
      refine ⟨rfl, OldK.of_keep fun b o e => ?_, os, bare⟩
      cases hb' : H b with
      | none => exact un.keep b o e hb' (by intro z; exact absurd (show b ∈ ([] : List Addr) from z) List.not_mem_nil) (by simp)
      | some z =>
        rcases on b with n | ⟨ob, xs, n⟩
        · rw [hb'] at n; cases n
        · obtain ⟨e1, _⟩ := ok b _ n
          obtain ⟨e2, _⟩ := ok' b _ (un.frzs b ob _ n)
          rw [e] at e1
          cases e1
          exact e2
  cases hk : K.lookup a with
  | some o =>
    have q := kx a o hk
    rw [ha] at q
    cases q
    exact go (fun _ => none) (fun _ => .inl rfl) (.inr ⟨_, us.toArray, _, hk, rfl, rfl, rfl, by rw [List.size_toArray, ll]; exact hl, by simpa using rv⟩) (fun b u z => by have z' : (none : Option HO) = some u := z; cases z') (fun b z => absurd rfl z) fun z => absurd rfl z
  | none =>
    let H1 : Hp := fun b => if b = a then some (.frz { cls := .type "list", data := .seq us.toArray } (.lst (ns.map V.int))) else none
    have on : ∀ b, b ≠ a → H1 b = none := fun b n => if_neg n
    have at_ : H1 a = some (.frz { cls := .type "list", data := .seq us.toArray } (.lst (ns.map V.int))) := if_pos rfl
    refine go H1 (fun b => ?_) (.inl (.inr ⟨_, at_⟩)) (fun b u z => ?_) (fun b z => Classical.byContradiction fun n => z (on b n)) fun _ => hk
    · by_cases e : b = a
      · subst e; exact .inr ⟨_, _, at_⟩
      · exact .inl (on b e)
    · by_cases e : b = a
      · subst e
        rw [at_] at z
        cases z
        exact ⟨ha, by rw [List.length_map]; exact hl, us, _, rv, ha⟩
      · rw [on b e] at z
        cases z
end
/-- walk_of where the law itself wants that no repr is under way -/
theorem walk_ofG {l : PySem.W.OpenLaw} {n : Nat} {q : Program} {loose : List Str} {XP : (Str → Option Value) → Heap → Prop} {YP : World → Heap → Prop} {d : DefRec} {K : Params → Kf} {CX : World → CXT} {sp : World → Sp} {x : Str}
    (hn : l.most = some n) (hn2 : n ≤ sizeLine) (hdf : d.params.defaults = []) (hY : ∀ (w : World) (h : Heap), YP w h → (K w.params).In h)
    (F : ∀ (w : World) (mg : Str → Option Value) (fa : Addr) (h : Heap), (K w.params).In h → h.Ns mainGlobals mg → mg d.name = some (.ref fa) →
      ∃ fd : FuncData, (∀ (s : Shared) (u : Value), BindsTo s fd ⟨[u], []⟩ [(x, u)]) ∧ ∀ base : Heap, (K w.params).In base → base.Ns mainGlobals mg → FnAt callerA l.prog w (K w.params) mg base (CX w) fa fd [x] (sp w))
    (hsp : ∀ (w : World) (H : Hp) (a : Addr) (ns : List Int), ns.length ≤ n → Only H → SqL (K w.params) H a (ns.map V.int) → sp w [.ref a] H (fun v _ => v = .bl true) fun _ _ _ => False)
    (hCX : ∀ (w : World) (H : Hp) (s : Shared) (e : Value) (s' : Shared), CX w [] H s (fun _ _ _ => False) e s' → False) :
    PySem.W.WalkO q loose XP YP l.row.toRowW d [] (fun f vs => PySem.call f vs) := by
  refine Att.attach_call hn hdf fun w s0 t mg mb fa o pm cd doc a us ns G Y ho hd hcd hmg hobj hi hlen hg => ?_
  have kx := hY w _ Y
  obtain ⟨fd, hb, hF⟩ := F w mg fa _ kx G.T.g hmg
  exact lawAt kx G.T.g G.T.b G.T.builtins G.T.nolimit hg hobj hi (Nat.le_trans hlen hn2) hF hb (fun H on sq => hsp w H a ns hlen on sq) fun H e s' => hCX w H t e s'

/-! ### abs, repr -/
section
variable {X : Cx} {G : Gs}
def dAbs : D → M SV
  | .int i => mpure (.d (.int (if i < 0 then -i else i)))
  | _ => mstuck
theorem fit_abs : FitsC G (fun xs H Q => ∃ i, xs = [.int i] ∧ Q (.int (if i < 0 then -i else i)) H) (d1 dAbs) := fit1 fun σ H L en x d Q R o q => by
  unfold dAbs at q
  split at q
  · exact ⟨_, by rw [o.int], post_d R (.int _) q⟩
  · exact q.elim
def rRepr (K : Kf) : List V → Hp → VK → Prop := fun xs H Q => ∃ (a : Addr) (d : D), xs = [.ref a] ∧ Dp K H (.ref a) d ∧ SeqAt.shaped d = true ∧ d.showable = true ∧ d.shown.length ≤ sizeLine ∧ Q (.str d.shown) H
theorem call_reprD (hg : X.A.guards = some []) (hu : X.A.units + 65 < cLine) : CallR X (.builtin "repr") (rRepr X.K) := by
  intro pins s σ H xs us Q I r h
  obtain ⟨a, d, rfl, hd, hs, hw, hz, q⟩ := h
  rw [Vals.ref1 r]
  obtain ⟨as, rd⟩ := Dp.reads I d (.ref a) (.ref a) hd rfl
  have hl := SeqAt.canLay_of_shaped hs
  have hdep : d.depth ≤ 64 := by
    have z : (d.canLay0 && decide (d.depth ≤ 64)) = true := hs
    rw [Bool.and_eq_true] at z
    exact of_decide_eq_true z.2
  exact repr_of_reads' rd hw (PyData.noDict_hsm (PyData.hasDict_of_canLay d hl)) hg (by omega) (fun b o e => e) (fun h' u tk k => ⟨.str d.shown, H, I.kept (t' := tk) k, ⟨u, rfl⟩, q⟩) hz
def reprD : D → Option Str
  | .tuple ds => if plains ds = true ∧ SeqAt.shaped (.tuple ds) = true ∧ PyData.showable (.tuple ds) = true ∧ (PyData.shown (.tuple ds)).length ≤ sizeLine then some (PyData.shown (.tuple ds)) else none
  | .list ds => if plains ds = true ∧ SeqAt.shaped (.list ds) = true ∧ PyData.showable (.list ds) = true ∧ (PyData.shown (.list ds)).length ≤ sizeLine then some (PyData.shown (.list ds)) else none
  | _ => none
def dRepr (x : D) : M SV := ivD ((reprD x).map .str)
theorem fit_repr : FitsC G (rRepr G.K) (d1 dRepr) := fit1 fun σ H L en x d Q R o q => by
  unfold dRepr ivD at q
  cases e : reprD d with
  | none => rw [e] at q; exact q.elim
  | some z =>
    rw [e] at q
    unfold reprD at e
    split at e
    · split at e
      · rename_i h
        cases e
        obtain ⟨a, xs, rfl, _⟩ := o.tuple
        exact ⟨a, _, rfl, o.dp (by simpa [plain] using h.1), h.2.1, h.2.2.1, h.2.2.2, post_d R (.str _) q⟩
      · cases e
    · split at e
      · rename_i h
        cases e
        obtain ⟨a, xs, rfl, _⟩ := o.list
        exact ⟨a, _, rfl, o.dp (by simpa [plain] using h.1), h.2.1, h.2.2.1, h.2.2.2, post_d R (.str _) q⟩
      · cases e
    · cases e
end
end L2

namespace L2
open PySem PySem.Spec PyProof.Rows
/-! ### list(range(n)) -/
section
variable {X : Cx} {G : Gs}
theorem cr_range1 : CallR X (.type "range") (fun vs H Q => ∃ j, vs = [V.int j] ∧ ∀ p, H p = none → Q (.ref p) (upd H p (.rng 0 j))) := by
  intro pins s σ H vs us Q I r h
  obtain ⟨j, rfl, q⟩ := h
  obtain ⟨u, rfl, t, rfl⟩ := vals1 r
  refine call_range_1 ⟨.ref s.heap.objs.size, upd H s.heap.objs.size (.rng 0 j), I.laid (t' := s.toks + 1 + 1) (fun b o e => Heap.get?_push_of_some _ e) (Nat.le_refl _) ?_, rfl, q _ (I.hok.fresh (Nat.le_refl _))⟩
  exact ⟨s.toks, t, s.toks + 1, Heap.get?_push_size _ rfl⟩
def rngV (n : Nat) : List V := (List.range n).map fun k => .int (0 + (k : Nat))
theorem rngV_dq {K : Kf} {H : Hp} : ∀ l : List Nat, DqAll K H (l.map fun k => V.int (0 + (k : Nat))) (l.map fun k => .int (0 + (k : Nat)))
  | [] => .nil
  | k :: r => .cons (.int _) (rngV_dq r)
theorem vals_items {acc : Array Value} {n : Nat} (h : ItemsOf (fun i v => ∃ t, v = .int (0 + (i : Int) * 1) t) acc n) : Vals (rngV n) acc.toList := by
  obtain ⟨hz, hv⟩ := h
  have key : ∀ (m : Nat) (us : List Value) (k : Nat), us.length = m → (∀ j v, us[j]? = some v → ∃ t, v = Value.int (0 + ((k + j : Nat) : Int) * 1) t) → Vals ((List.range' k m).map fun k => V.int (0 + (k : Nat))) us := by
    intro m
    induction m with
    | zero =>
      intro us k hl _
      obtain rfl := List.length_eq_zero_iff.mp hl
      exact .nil
    | succ m ih =>
      intro us k hl hu
      cases us with
      | nil => simp at hl
      | cons u us =>
        rw [List.range'_succ, List.map_cons]
        obtain ⟨t, rfl⟩ := hu 0 u rfl
        refine .cons ⟨t, by simp⟩ (ih us (k + 1) (by simpa using hl) fun j v e => ?_)
        obtain ⟨t, rfl⟩ := hu (j + 1) v (by simpa using e)
        exact ⟨t, by rw [show k + 1 + j = k + (j + 1) by omega]⟩
  have z := key n acc.toList 0 (by rw [Array.length_toList]; exact hz) fun j v e => by
    obtain ⟨t, rfl⟩ := hv j v (by rw [← Array.getElem?_toList]; exact e)
    exact ⟨t, by rw [Nat.zero_add]⟩
  unfold rngV
  rw [List.range_eq_range']
  exact z
theorem cr_listRng (hc : X.calm = true) : CallR X (.type "list") (fun vs H Q => ∃ (a : Addr) (j : Int), vs = [V.ref a] ∧ H a = some (.rng 0 j) ∧ (-(2 ^ 62) ≤ j ∧ j ≤ 2 ^ 20) ∧ ∀ p, H p = none → Q (.ref p) (upd H p (.lst (rngV j.toNat)))) := by
  intro pins s σ H vs us Q I r h
  obtain ⟨a, j, rfl, ha, ⟨hn, hj⟩, q⟩ := h
  rw [Vals.ref1 r]
  obtain ⟨t, u, v, ho⟩ := (show ∃ t u v, s.heap.get? a = some { cls := .type "range", data := .fields #[.int 0 t, .int j u, .int 1 v] } from I.hok a _ ha)
  have hz : (Builtin.Range.rangeSize 0 j 1) = ((j.toNat : Nat) : Int) := by rw [rangeSize_one]; split <;> omega
  refine call_list_range (n := j.toNat) (I.ok.hd hc) (show IsRange s.heap a 0 j 1 t u v from ho) (small_one (by omega) (by omega) hn (by omega)) hz (by omega) fun h' tk acc c' hk hS hi => ?_
  refine ⟨.ref s.heap.objs.size, upd H s.heap.objs.size (.lst (rngV j.toNat)), I.laid (t' := tk) hk (Nat.le_refl _) ⟨?_, acc.toList, c', vals_items hi, ?_⟩, rfl, q _ (I.hok.fresh (Nat.le_refl _))⟩
  · unfold rngV; rw [List.length_map, List.length_range, sizeLine_eq]; omega
  · exact hS
end
/-- list(range(e)) -/
def mLRange (m : M SV) : M SV := mbind (mfrz m) fun sv en => match look en sv with
  | some (.int j) => if -(2 ^ 62) ≤ j ∧ j ≤ 2 ^ 20 then .ok (.own (.lst (rngD 0 j.toNat))) en else .stuck
  | _ => .stuck
section
variable {X : Cx} {G : Gs} {e : Expr} {m : M SV} {p p2 pos pos2 : Pos}
theorem je_listRange (hc : X.calm = true) (h1 : Gl X "list") (h2 : X.mg "list" = none) (h3 : Gl X "range") (h4 : X.mg "range" = none) (he : PE X e (tE G m))
    (e1 : starEach [.Call (.Name "range" p2) [e] [] pos2] X.env = (false, eval (.Call (.Name "range" p2) [e] [] pos2) X.env) :: starEach [] X.env := by rfl) (e2 : starEach [e] X.env = (false, eval e X.env) :: starEach [] X.env := by rfl) :
    PE X (.Call (.Name "list" p) [.Call (.Name "range" p2) [e] [] pos2] [] pos) (tE G (mLRange m)) :=
  (pe_callTy (cr_listRng hc) h1 h2 (by decide +kernel) (pa_cons (pe_callTy cr_range1 h3 h4 (by decide +kernel) (pa_cons (je_frz he) pa_nil e2) (he := e2)) pa_nil e1) (he := e1)).imp fun σ H Q h => by
    obtain ⟨en, L, R, q⟩ := h
    refine (seqE R q).mono fun x H1 ⟨en1, L1, sv, R1, s1, r1, q1⟩ => ?_
    cases e1 : look en1 sv with
    | none => rw [e1] at q1; exact q1.elim
    | some d =>
      rw [e1] at q1
      have o := RV.opd R1 (Same.refl _) r1 e1
      split at q1
      · rename_i j heq
        cases heq
        split at q1
        · rename_i hj
          refine ⟨j, by rw [o.int], fun b hb => ?_⟩
          refine ⟨b, j, rfl, upd_same, hj, fun p hp => ?_⟩
          have R2 := R1.grow (same_new (o := .rng 0 j) hb)
          have s2 := hid_mono (L := L1) (same_new (o := .rng 0 j) hb)
          exact post_lst R2 hp (rngV_dq _) (q1.from s2)
        · exact q1.elim
      · exact q1.elim
end
/-! ### a comprehension within a comprehension -/
theorem relabel_look {env : Env} {x : Str} : ∀ {ns : List (Str × NameKind)}, (ns.lookup x = some .cell ∨ ns.lookup x = some .free) →
    (ns.map fun (n, k) => if (k == NameKind.free && env.scope.kind == .function && env.kindOf n == some .cell) then (n, NameKind.cell) else (n, k)).lookup x = some .cell ∨
    (ns.map fun (n, k) => if (k == NameKind.free && env.scope.kind == .function && env.kindOf n == some .cell) then (n, NameKind.cell) else (n, k)).lookup x = some .free
  | [], h => by rcases h with h | h <;> simp at h
  | (n, k) :: r, h => by
    have ih := relabel_look (env := env) (x := x) (ns := r)
    rw [List.map_cons]
    by_cases c : (k == NameKind.free && env.scope.kind == .function && env.kindOf n == some .cell) = true
    · simp only [c, if_true]
      by_cases e : x == n
      · rw [List.lookup_cons, e]
        exact .inl rfl
      · have e' : (x == n) = false := by simpa using e
        simp only [List.lookup_cons, e'] at h
        rw [List.lookup_cons, e']
        exact ih h
    · simp only [c, if_false, Bool.false_eq_true]
      by_cases e : x == n
      · simp only [List.lookup_cons, e] at h
        rw [List.lookup_cons, e]
        exact h
      · have e' : (x == n) = false := by simpa using e
        simp only [List.lookup_cons, e'] at h
        rw [List.lookup_cons, e']
        exact ih h
theorem blkOk_re {N : List Str} {sc scope : Scope} {env : Env} {own : List (Str × Nat)} (h : blkC N sc scope own = true) : BlkOk N (relabel sc env) scope own :=
  have b := blkOk_by h
  ⟨b.kind, b.uniq, b.ix, fun y hy e => relabel_look (b.free y hy e), b.own⟩
end L2

namespace L2
open PySem PySem.Spec PyProof.Rows
/-! ### max(xs, default=d), xs ints -/
section
variable {prog : Program} {w : World} {A : Around} {E : Value → Shared → Prop} {s : Shared} {l : Addr} {its : List Value} {ns : List Int}
theorem max_dfl {d : Value} {Q : Value → Shared → Prop} (hh : A.handled = none) (hl : s.heap.IsList l its.toArray) (hi : IntsAre its ns)
    (h0 : ns = [] → ∀ h' tk, (∀ b o, s.heap.get? b = some o → h'.get? b = some o) → Q d { s with heap := h', toks := tk })
    (h : ns ≠ [] → ∀ h' tk M t', (∀ b o, s.heap.get? b = some o → h'.get? b = some o) → M ∈ ns → (∀ a, a ∈ ns → a ≤ M) → Q (.int M t') { s with heap := h', toks := tk }) :
    wpAny (model prog w) A (call (.builtin "max") [.ref l] [(Str.ofString "default", d)]) Q E s := by
  obtain ⟨xs, e⟩ := hi.allInts.items
  have hn : numsOf (intItems xs).toList = ns := by rw [← e]; exact hi.numsOf
  rw [nums_intItems] at hn
  subst hn
  rw [e] at hl
  refine call_max_walkD (iter_intList hl fun s₂ e2 st hfp hlI => ?_)
  subst e2
  refine ⟨_, _, _, _, _, _, _, Att.noObjs s.heap, _, rfl, (Walks.list (A := A.in1) hh _ l hlI (intItems xs)).toS, st, hfp, (fun b o z => by rw [Att.noObjs_get] at z; cases z), (fun b o z => by rw [Att.noObjs_get] at z; cases z), fun hz s' mv => ?_, fun hz => ⟨fun i j vi vj s Q E _ hi hj hq => CmpOf.ints_gt (numAt xs) (fun _ _ => intItems_at) i j vi vj s Q E hi hj hq, fun v s' hP mv => ?_⟩⟩
  · obtain ⟨hp, g', d', tk', os'⟩ := s'
    obtain rfl : g' = s.gens := mv.gens
    obtain rfl : d' = s.drawn := mv.drawn
    obtain rfl : os' = s.os := mv.os
    refine h0 ?_ hp tk' (old_kept mv.heap)
    have : xs.size = 0 := by simpa [intItems] using hz
    have e3 : xs = #[] := Array.size_eq_zero_iff.mp this
    subst e3
    rfl
  · obtain ⟨hp, g', d', tk', os'⟩ := s'
    obtain rfl : g' = s.gens := mv.gens
    obtain rfl : d' = s.drawn := mv.drawn
    obtain rfl : os' = s.os := mv.os
    have hsz : 0 < xs.size := by simpa [intItems] using hz
    have hv : (intItems xs)[argBest (fun i j => decide (numAt xs i > numAt xs j)) (xs.size - 1)]? = some v := by simpa [intItems] using hP
    obtain ⟨t, rfl⟩ := intItems_at hv
    obtain ⟨q1, q2⟩ := argBest_gt (numAt xs) (xs.size - 1)
    refine h (fun z => ?_) hp tk' _ t (old_kept mv.heap) ?_ fun a ha => ?_
    · have := congrArg List.length z
      simp at this
      subst this
      simp at hsz
    · rw [numAt_eq]; exact PySem.getD_mem (by rw [List.length_map, Array.length_toList]; omega)
    · obtain ⟨j, hj, rfl⟩ := mem_getD ha
      rw [List.length_map, Array.length_toList] at hj
      rw [← numAt_eq]; exact q2 j (by omega)
end
section
variable {X : Cx} {G : Gs}
def rMaxDf (K : Kf) : List V → List V → Hp → VK → Prop := fun xs zs H Q => ∃ (a : Addr) (ns : List Int) (d : Int), xs = [.ref a] ∧ zs = [.int d] ∧ SqL K H a (ns.map V.int) ∧ (ns = [] → Q (.int d) H) ∧ (ns ≠ [] → ∀ m, m ∈ ns → (∀ y, y ∈ ns → y ≤ m) → Q (.int m) H)
theorem cr_maxDf (hc : X.calm = true) : CallRK X (.builtin "max") ["default"] (rMaxDf X.K) := by
  intro pins s σ H xs zs us ws Q I r r2 h
  obtain ⟨a, ns, d, rfl, rfl, hs, q0, q⟩ := h
  obtain ⟨its, rv, hl, _⟩ := I.list hs
  rw [Vals.ref1 r]
  obtain ⟨u, rfl, t, rfl⟩ := vals1 r2
  exact max_dfl (I.ok.hd hc) hl.isList rv.ints (fun e h' tk hk => ⟨.int d, H, I.kept hk, ⟨t, rfl⟩, q0 e⟩) fun e h' tk m t' hk h1 h2 => ⟨.int m, H, I.kept hk, ⟨t', rfl⟩, q e m h1 h2⟩
/-- the greatest of ns, d where there is none -/
def maxI (d : Int) : List Int → Int
  | [] => d
  | n :: r => r.foldl (fun a b => if a < b then b else a) n
theorem fold_ge : ∀ (r : List Int) (n : Int), n ≤ r.foldl (fun a b => if a < b then b else a) n ∧ (∀ y ∈ r, y ≤ r.foldl (fun a b => if a < b then b else a) n) ∧ (r.foldl (fun a b => if a < b then b else a) n = n ∨ r.foldl (fun a b => if a < b then b else a) n ∈ r)
  | [], n => ⟨Int.le_refl _, (fun y m => by cases m), .inl rfl⟩
  | b :: r, n => by
    rw [List.foldl_cons]
    obtain ⟨h1, h2, h3⟩ := fold_ge r (if n < b then b else n)
    have e : n ≤ (if n < b then b else n) ∧ b ≤ (if n < b then b else n) := by split <;> omega
    refine ⟨by omega, fun y m => ?_, ?_⟩
    · rcases List.mem_cons.mp m with rfl | m
      · omega
      · exact h2 y m
    · rcases h3 with h3 | h3
      · rw [h3]
        by_cases c : n < b
        · rw [if_pos c]; exact .inr List.mem_cons_self
        · rw [if_neg c]; exact .inl rfl
      · exact .inr (List.mem_cons_of_mem _ h3)
theorem maxI_mem {d : Int} : ∀ {ns : List Int}, ns ≠ [] → maxI d ns ∈ ns
  | [], h => absurd rfl h
  | n :: r, _ => by
    show r.foldl _ n ∈ _
    rcases (fold_ge r n).2.2 with e | e
    · rw [e]; exact List.mem_cons_self
    · exact List.mem_cons_of_mem _ e
theorem maxI_ge {d : Int} : ∀ {ns : List Int} {y : Int}, y ∈ ns → y ≤ maxI d ns
  | n :: r, y, m => by
    show _ ≤ r.foldl _ n
    rcases List.mem_cons.mp m with rfl | m
    · exact (fold_ge r y).1
    · exact (fold_ge r n).2.1 y m
theorem maxI_uniq {d m : Int} {ns : List Int} (h1 : m ∈ ns) (h2 : ∀ y, y ∈ ns → y ≤ m) : m = maxI d ns := by
  have a := maxI_ge (d := d) h1
  have b := h2 _ (maxI_mem (d := d) (List.ne_nil_of_mem h1))
  omega
def mMaxDf (me md : M SV) : M SV := mbind (mfrz me) fun a => mbind (mfrz md) fun b en => match look en a, look en b with
  | some (.list ds), some (.int d) => (match intsOf ds with
    | some ns => .ok (.d (.int (maxI d ns))) en
    | none => .stuck)
  | _, _ => .stuck
theorem je_maxDf {e ed : Expr} {me md : M SV} {p pos kpos : Pos} (hc : X.calm = true) (hK : X.K = G.K) (hg : Gl X "max") (hm : X.mg "max" = none) (he : PE X e (tE G me)) (hd : PE X ed (tE G md)) (hse : starEach [e] X.env = (false, eval e X.env) :: starEach [] X.env := by rfl)
    (h1 : backTo pos (starEach [e] X.env) = (false, eval e X.env) :: backTo pos (starEach [] X.env) := by rfl) (hpl : (backTo pos (starEach [e] X.env)).any (·.1) = false := by rfl)
    (hall : (backToKw pos (keywordEach [⟨some "default", ed, kpos⟩] X.env)).all (·.1.isSome) = true := by rfl) (hnone : (backToKw pos (keywordEach [⟨some "default", ed, kpos⟩] X.env)).any (·.1.isNone) = false := by rfl) (hks : (backToKw pos (keywordEach [⟨some "default", ed, kpos⟩] X.env)).filterMap (·.1) = (["default"] : List Str) := by rfl) :
    PE X (.Call (.Name "max" p) [e] [⟨some "default", ed, kpos⟩] pos) (tE G (mMaxDf me md)) :=
  (pe_callBK (cr_maxDf hc) hg hm (by decide +kernel) (pa_cons (je_frz he) pa_nil hse) (pk_cons (je_frz hd) pk_nil) (he := h1) (hpl := hpl) (hall := hall) (hnone := hnone) (hks := hks)).imp fun σ H Q h => by
    obtain ⟨en, L, R, q⟩ := h
    refine (seqE R q).mono fun x H1 ⟨en1, L1, a, R1, s1, r1, q1⟩ => ?_
    refine (seqE R1 q1).mono fun y H2 ⟨en2, L2, b, R2, s2, r2, q2⟩ => ?_
    split at q2
    · rename_i ds d ea eb
      split at q2
      · rename_i ns en
        obtain ⟨l, ys, rfl, ho, hr⟩ := (RV.opd R2 s2 r1 ea).list'
        have e2 := (RV.opd R2 (Same.refl _) r2 eb).int
        have e3 := intsOf_eq en
        subst e3 e2
        have e4 := dqAll_ints hr
        subst e4
        refine ⟨l, ns, d, rfl, rfl, by rw [hK]; exact ho, fun e => ?_, fun e m h1 h2 => ?_⟩
        · subst e
          exact post_d R2 (.int _) q2
        · rw [maxI_uniq (d := d) h1 h2]
          exact post_d R2 (.int _) q2
      · exact q2.elim
    · exact q2.elim
end
/-! ### l[i] = v, l the list of a slot -/
def mLPut (i : Nat) (mk mv : M SV) : M Ct := mbind (mkeep mv) fun sv en => match en[i]? with
  | some (some (.own (.lst _))) => mbind (mfrz mk) (fun sk en => match look en sk, sv, en[i]? with
    | some (.int k), .d z, some (some (.own (.lst ds))) => (match ixN ds.length k with
      | some j => .ok .nx (en.set i (some (.own (.lst (ds.set j z)))))
      | none => .stuck)
    | _, _, _ => .stuck) en
  | _ => .stuck
section
variable {X : Cx} {G : Gs} {ek ev : Expr} {mk mv : M SV} {pos pos' : Pos}
theorem js_lput (i : Nat) {x : Str} {p : Pos} (hN : X.N[i]? = some x) (hv : Vis X.env.scope x) (hk : PE X ek (tE G mk)) (he : PE X ev (tE G mv)) (hd : (x == ("__debug__" : Str)) = false := by decide) (hcd : (x == ("__classdict__" : Str)) = false := by decide)
    (ha : ∀ v, assign (.Subscript (.Name x p) ek pos') X.env v = (do
      let ov ← holding [v] (eval (.Name x p) X.env)
      let iv ← holding [v, ov] (eval ek X.env)
      standAt pos'
      holding [v, ov, iv] (setItem ov iv v)
      release [v, ov, iv] []) := by intro _; rfl)
    (hs : swapsWithSole [.Subscript (.Name x p) ek pos'] ev pos.line X.env = pure false := by rfl) (hw : swappedStores [.Subscript (.Name x p) ek pos'] ev X.env = pure none := by rfl)
    (h1 : (assignEach [.Subscript (.Name x p) ek pos'] X.env).map (·.2) = [assign (.Subscript (.Name x p) ek pos') X.env] := by rfl) :
    PS X (.Assign [.Subscript (.Name x p) ek pos'] ev pos) (tS G [] (mLPut i mk mv)) :=
  (ps_asg (je_keep he) (pg_sub (pe_var hN hv hd hcd) (je_frz hk) set_list (ha := ha)) hs hw h1).imp fun D σ H h => by
    obtain ⟨en, L, R, q⟩ := h
    refine (seqES R q).mono fun v H1 ⟨en1, L1, sv, R1, s1, r1, q1⟩ => ?_
    split at q1
    · rename_i ds0 e0
      obtain ⟨a, xs0, e1, m0, ho0, hr0⟩ := slot_lst R1 e0
      refine ⟨.ref a, e1, ?_⟩
      refine (seqES R1 q1).mono fun y H2 ⟨en2, L2, sk, R2, s2, r2, q2⟩ => ?_
      split at q2
      · rename_i k z ds ey e2 _
        split at q2
        · rename_i j ej
          obtain ⟨a', xs, e3, m, ho, hr⟩ := slot_lst R2 e2
          rw [e1] at e3
          cases e3
          have eyi := (RV.opd R2 (Same.refl _) r2 ey).int
          subst eyi
          refine ⟨a, xs, k, j, rfl, rfl, ho, by rw [hr.length]; exact ej, ?_⟩
          exact q2 σ _ L2 (R2.put e2 e1 m (b' := .lst (ds.set j z)) (DqAll.set (Dq.mono s2 _ r1) j hr)) (by rw [hid_upd m]; exact Same.refl _) Keeps.refl
        · exact q2.elim
      · exact q2.elim
    · exact q1.elim
end
/-! ### for x in reversed(range(n)) -/
def revD (n : Nat) : List D := (List.range n).map fun k => .int ((n : Int) - 1 - (k : Nat))
theorem walks_rev {K : Kf} {n : Nat} : Walks K (Itc (0 + (n : Int) - 1) (-1) n) (fun _ _ => True) (revD n) where
  go := fun i H L _ hi => by
    unfold revD at hi
    rw [List.length_map, List.length_range] at hi
    exact hi
  stop := fun i H L _ hi => by
    unfold revD at hi
    rw [List.length_map, List.length_range] at hi
    exact (by omega : n ≤ i)
  yld := fun i H L x H' d _ hi y _ => by
    obtain ⟨e, e2⟩ := y
    subst e e2
    unfold revD at hi
    rw [List.getElem?_map] at hi
    by_cases h : i < n
    · rw [List.getElem?_range h] at hi
      cases hi
      refine ⟨Same.refl _, ?_⟩
      rw [show (0 : Int) + (n : Int) - 1 + (i : Nat) * (-1) = (n : Int) - 1 - (i : Nat) by omega]
      exact .int _
    · rw [List.getElem?_eq_none (by rw [List.length_range]; omega)] at hi
      cases hi
noncomputable def mForRev (tg : Tg) (me : M SV) (body : M Ct) : M Ct := mbind (mfrz me) fun sv en => match look en sv with
  | some (.int j) => if -(2 ^ 62) ≤ j ∧ j < 2 ^ 62 then forGo tg none body (revD j.toNat) en else .stuck
  | _ => .stuck
section
variable {X : Cx} {G : Gs} {t a : Expr} {body : List Stmt} {me : M SV} {mb : M Ct} {wb : List Nat} {tg : Tg} {pos p p2 pos' pos2 : Pos}
theorem js_forRev (hp : PassesOwn (model X.prog X.w) X.A X.env X.xe) (hc : X.calm = true) (hK : X.K = G.K) (h1 : Gl X "reversed") (h2 : X.mg "reversed" = none) (h3 : Gl X "range") (h4 : X.mg "range" = none) (ha : PE X a (tE G me)) (hg : PG X t (gOf X.K tg)) (hb : PSs X body (tS G wb mb))
    (e1 : starEach [.Call (.Name "range" p2) [a] [] pos2] X.env = (false, eval (.Call (.Name "range" p2) [a] [] pos2) X.env) :: starEach [] X.env := by rfl) (e2 : starEach [a] X.env = (false, eval a X.env) :: starEach [] X.env := by rfl)
    (hf : ∀ x, foldedSetIterable (.Call (.Name "reversed" p) [.Call (.Name "range" p2) [a] [] pos2] [] pos') X.env x = pure x := by intro _; rfl) :
    PS X (.For t (.Call (.Name "reversed" p) [.Call (.Name "range" p2) [a] [] pos2] [] pos') body [] pos) (tS G (tg.slots ++ wb) (mForRev tg me mb)) :=
  (ps_for hp hc (pi_revR h1 h2 (prg_1 h3 h4 (je_frz ha) e2) e1) hg hb hf).imp fun E σ H h => by
    obtain ⟨en, L, R, q⟩ := h
    refine (seqES R q).mono fun v H1 ⟨en1, L1, sv, R1, s1, r1, q1⟩ => ?_
    rw [hK]
    split at q1
    · rename_i j e
      split at q1
      · rename_i hj
        refine ⟨j, (RV.opd R1 (Same.refl _) r1 e).int, by omega, by omega, hj.1, hj.2, ?_⟩
        rw [Int.sub_zero]
        by_cases h0 : 0 ≤ j
        · exact for_run walks_rev R1 q1 fun _ _ _ _ _ _ _ _ => trivial
        · have hz : j.toNat = 0 := by omega
          exact for_run walks_rev R1 q1 fun _ _ _ _ _ _ _ _ => trivial
      · exact q1.elim
    · exact q1.elim
end
end L2

namespace L2
open PySem PySem.Spec PyProof.Rows
/-! ### [e for x in xs for y in ys], the second over a tuple -/
open Classical in
noncomputable def compGo2 (tg : Tg) (mc : M Bool) (tg1 : Tg) (vs1 : List Nat) (mi1 : M SV) (mc1 : M Bool) (me : M SV) (en0 : En) : List D → List D → Option (List D)
  | [], acc => some acc
  | d :: r, acc => match setTg tg d en0 with
    | none => none
    | some en1 => match mc en1 with
      | .ok false en2 => if en2 = en1 then compGo2 tg mc tg1 vs1 mi1 mc1 me en0 r acc else none
      | .ok true en2 => if en2 = en1 then (match mfrz mi1 en1 with
        | .ok (.d (.tuple ds1)) en3 => if en3 = en1 then (match compGo tg1 mc1 me (wipeEn en1 vs1) ds1 acc with
          | some acc2 => compGo2 tg mc tg1 vs1 mi1 mc1 me en0 r acc2
          | none => none) else none
        | _ => none) else none
      | _ => none
noncomputable def mComp2 (tg : Tg) (vs : List Nat) (mc : M Bool) (tg1 : Tg) (vs1 : List Nat) (mi1 : M SV) (mc1 : M Bool) (me : M SV) (ds : List D) : M SV := fun en => if noOwn en vs then (match compGo2 tg mc tg1 vs1 mi1 mc1 me (wipeEn en vs) ds [] with
  | some acc => .ok (.own (.lst acc)) en
  | none => .stuck) else .stuck
section
variable {G : Gs} {J : It} {tg tg1 : Tg} {mc mc1 : M Bool} {mi1 me : M SV} {ds : List D} {H : Hp} {L : List Addr} {σ : St} {en : En} {Q : VK} {vs vs1 : List Nat} {tt tt1 : TT} {te : TE} {wi1 : TI}
theorem wipe_twice {σ2 : St} (hv : ∀ j ∈ vs1, j ∈ vs) : wipe (wipe σ2 vs1) vs = wipe σ2 vs :=
  wipe_same (by rw [wipe_length]) fun j hj => wipe_keeps σ2 vs1 j fun z => hj (hv j z)
theorem wipeEn_twice {en1 : En} (hv : ∀ j ∈ vs1, j ∈ vs) : wipeEn (wipeEn en1 vs1) vs = wipeEn en1 vs :=
  wipeEn_same (by rw [wipeEn_len]) fun j hj => wipeEn_out en1 fun z => hj (hv j z)
/-- the inner loop: from what stands at its start to what stands behind it -/
theorem inner_run {D0 : Addr} {σ2 : St} {en1 : En} {H0 : Hp} {L0 : List Addr} {ds1 : List D} {acc0 fin : List D} {xs0 : List V} {a : Addr} {Nx : Hp → Prop} (nB : D0 ∉ G.B) (R : RelS (G.blk D0 xs0) L0 σ2 H0 en1) (ha : ∃ ys, SqT G.K (hid H0 L0) a ys ∧ DqAll G.K (hid H0 L0) ys ds1) (hacc : DqAll G.K (hid H0 L0) xs0 acc0)
    (ec : compGo tg1 mc1 me (wipeEn en1 vs1) ds1 acc0 = some fin) (hsub1 : ∀ j ∈ tg1.slots, j ∈ vs1)
    (ht1 : ∀ (D0 : Addr) (xs : List V) (σ' : St) (H' : Hp) Q, tT (G.blk D0 xs) mc1 σ' H' Q → tt1 σ' H' Q) (he : ∀ (D0 : Addr) (xs : List V) (σ' : St) (H' : Hp) Q, tE (G.blk D0 xs) (mkeep me) σ' H' Q → te σ' H' Q)
    (hN : ∀ (H' : Hp) (L' : List Addr) (xs : List V), RelS (G.blk D0 xs) L' (wipe σ2 vs1) H' (wipeEn en1 vs1) → Same (hid H0 L0) (hid H' L') → DqAll G.K (hid H' L') xs fin → Nx H') :
    ∃ W1 : Nat → Nat → Hp → Prop, (∃ m, W1 0 m H0) ∧ ∀ j k H, W1 j k H →
      ((Itt G.K a).stop j H ∧ Nx H) ∨ ((Itt G.K a).go j H ∧ ∃ Nx1 : Hp → Prop, (∀ H', Nx1 H' → ∃ k', k' < k ∧ W1 (j + 1) k' H') ∧ ∀ x H', (Itt G.K a).yld j H x H' → gOf G.K tg1 x (wipe σ2 vs1) H' fun σ3 H5 => wipe σ3 vs1 = wipe σ2 vs1 ∧ tt1 σ3 H5 fun b H6 =>
        if b = true then te σ3 H6 fun y H7 => ∃ acc, H7 D0 = some (.lst acc) ∧ acc.length < sizeLine ∧ Nx1 (upd H7 D0 (.lst (acc ++ [y]))) else Nx1 H6) := by
  obtain ⟨ys, hys, hds⟩ := ha
  let Inv : Nat → Nat → Hp → Prop := fun i m H' => i + m = ds1.length ∧ ∃ (L' : List Addr) (acc : List D) (xs : List V), RelS (G.blk D0 xs) L' (wipe σ2 vs1) H' (wipeEn en1 vs1) ∧ Same (hid H0 L0) (hid H' L') ∧ DqAll G.K (hid H' L') xs acc ∧
    compGo tg1 mc1 me (wipeEn en1 vs1) (ds1.drop i) acc = some fin
  refine ⟨Inv, ⟨ds1.length, by omega, L0, acc0, xs0, R.wipe vs1, Same.refl _, hacc, ec⟩, ?_⟩
  rintro i m H1 ⟨hm, L1, acc, xs, R1, s1, hacc, e1⟩
  have hD : H1 D0 = some (.lst xs) := (R1.base D0 List.mem_cons_self).2.1.trans upd_same
  have mD : D0 ∈ L1 := (R1.base D0 List.mem_cons_self).1
  have hok : ∃ ys, SqT G.K H1 a ys ∧ DqAll G.K (hid H1 L1) ys ds1 := ⟨ys, sqT_mono hid_same (sqT_mono s1 hys), DqAll.mono s1 _ hds⟩
  by_cases hi : i < ds1.length
  · obtain ⟨d, hd⟩ : ∃ d, ds1[i]? = some d := ⟨ds1[i], List.getElem?_eq_getElem hi⟩
    have hdrop : ds1.drop i = d :: ds1.drop (i + 1) := by
      rw [List.drop_eq_getElem_cons hi]
      rw [List.getElem?_eq_getElem hi] at hd
      cases hd
      rfl
    rw [hdrop] at e1
    unfold compGo at e1
    refine .inr ⟨walks_tup.go i H1 L1 hok hi, fun H' => ∃ (L' : List Addr) (acc : List D) (xs : List V), RelS (G.blk D0 xs) L' (wipe σ2 vs1) H' (wipeEn en1 vs1) ∧ Same (hid H0 L0) (hid H' L') ∧ DqAll G.K (hid H' L') xs acc ∧
      compGo tg1 mc1 me (wipeEn en1 vs1) (ds1.drop (i + 1)) acc = some fin, fun H' n => ⟨m - 1, by omega, by omega, n⟩, fun x H2 hy => ?_⟩
    obtain ⟨s2, hx⟩ := walks_tup.yld i H1 L1 x H2 d hok hd hy R1.own
    have R2 := R1.grow s2
    cases e2 : setTg tg1 d (wipeEn en1 vs1) with
    | none => rw [e2] at e1; cases e1
    | some en3 =>
      rw [e2] at e1
      dsimp only at e1
      obtain ⟨hl1, ho1⟩ := setTg_out e2
      refine g_run (G := G.blk D0 xs) R2 hx e2 fun σ3 R3 k3 => ?_
      have hwσ : wipe σ3 vs1 = wipe σ2 vs1 := by
        have := wipe_same (σ := wipe σ2 vs1) (σ' := σ3) (vs := vs1) (by rw [R2.len, R3.len, hl1]) fun j hj => k3 j fun z => hj (hsub1 j z)
        rw [this]
        exact wipe_same (by rw [wipe_length]) fun j hj => wipe_keeps σ2 vs1 j hj
      have hwe : wipeEn en3 vs1 = wipeEn en1 vs1 := by
        rw [wipeEn_same (en := wipeEn en1 vs1) (en' := en3) hl1.symm fun j hj => ho1 j fun z => hj (hsub1 j z)]
        exact wipeEn_same (by rw [wipeEn_len]) fun j hj => wipeEn_out en1 hj
      have back : ∀ {xs' : List V} {L' : List Addr} {H' : Hp}, RelS (G.blk D0 xs') L' σ3 H' en3 → RelS (G.blk D0 xs') L' (wipe σ2 vs1) H' (wipeEn en1 vs1) := fun r => by
        have z := r.wipe vs1
        rw [hwσ, hwe] at z
        exact z
      refine ⟨hwσ, ht1 D0 xs σ3 H2 _ ⟨en3, L1, R3, ?_⟩⟩
      have s12 : Same (hid H1 L1) (hid H2 L1) := hid_mono s2
      cases e3 : mc1 en3 with
      | stuck => rw [e3] at e1; cases e1
      | exc _ _ => rw [e3] at e1; cases e1
      | ok b en2 =>
        rw [e3] at e1
        intro H3 L3 R4 s3
        cases b with
        | false =>
          dsimp only at e1
          split at e1
          · rename_i he2
            subst he2
            rw [if_neg Bool.false_ne_true]
            exact ⟨L3, acc, xs, back R4, s1.trans (s12.trans s3), DqAll.mono (s12.trans s3) _ hacc, e1⟩
          · cases e1
        | true =>
          dsimp only at e1
          split at e1
          · rename_i he2
            subst he2
            rw [if_pos rfl]
            refine he D0 xs σ3 H3 _ ⟨en2, L3, R4, ?_⟩
            cases e4 : mkeep me en2 with
            | stuck => rw [e4] at e1; cases e1
            | exc _ _ => rw [e4] at e1; cases e1
            | ok sv en4 =>
              rw [e4] at e1
              cases sv with
              | own _ => cases e1
              | bor _ => cases e1
              | d y =>
                dsimp only at e1
                split at e1
                · rename_i hc
                  obtain ⟨he3, hlen⟩ := hc
                  subst he3
                  intro v H4 L4 R5 s4 hv
                  have hD4 : H4 D0 = some (.lst xs) := (R5.base D0 List.mem_cons_self).2.1.trans upd_same
                  have mD4 : D0 ∈ L4 := (R5.base D0 List.mem_cons_self).1
                  have st : Same (hid H1 L1) (hid H4 L4) := s12.trans (s3.trans s4)
                  refine ⟨xs, hD4, by rw [hacc.length]; exact hlen, L4, acc ++ [y], xs ++ [v], (back R5).pushBlk nB, by rw [hid_upd mD4]; exact s1.trans st, ?_, e1⟩
                  rw [hid_upd mD4]
                  exact (DqAll.mono st _ hacc).append (.cons hv .nil)
                · cases e1
          · cases e1
  · have hi' : i = ds1.length := by omega
    have hdrop : ds1.drop i = [] := List.drop_eq_nil_of_le (by omega)
    rw [hdrop] at e1
    cases e1
    exact .inl ⟨walks_tup.stop i H1 L1 hok hi', hN H1 L1 xs R1 s1 hacc⟩
theorem comp2_run {ok : Hp → List Addr → Prop} (W : Walks G.K J ok ds) (R : RelS G L σ H en) (q : PostE G σ H L (mComp2 tg vs mc tg1 vs1 mi1 mc1 me ds en) Q) (hsub : ∀ j ∈ tg.slots, j ∈ vs) (hsub1 : ∀ j ∈ tg1.slots, j ∈ vs1) (hvs : ∀ j ∈ vs1, j ∈ vs)
    (k : ∀ (G' : Gs) H' L', G'.K = G.K → RelS G' L' (wipe σ vs) H' (wipeEn en vs) → Same (hid H L) (hid H' L') → ok H' L')
    (ht : ∀ (D0 : Addr) (xs : List V) (σ' : St) (H' : Hp) Q, tT (G.blk D0 xs) mc σ' H' Q → tt σ' H' Q) (hi1 : ∀ (D0 : Addr) (xs : List V) (σ' : St) (H' : Hp) Q, iAny G.K (tE (G.blk D0 xs) (mfrz mi1)) σ' H' Q → wi1 σ' H' Q)
    (ht1 : ∀ (D0 : Addr) (xs : List V) (σ' : St) (H' : Hp) Q, tT (G.blk D0 xs) mc1 σ' H' Q → tt1 σ' H' Q) (he : ∀ (D0 : Addr) (xs : List V) (σ' : St) (H' : Hp) Q, tE (G.blk D0 xs) (mkeep me) σ' H' Q → te σ' H' Q) :
    ∀ D0, H D0 = none → ∃ W : Nat → Nat → Hp → Prop, (∃ m, W 0 m (upd H D0 (.lst []))) ∧ ∀ i m H, W i m H →
      (J.stop i H ∧ Q (.ref D0) H) ∨ (J.go i H ∧ ∃ Nx : Hp → Prop, (∀ H', Nx H' → ∃ m', m' < m ∧ W (i + 1) m' H') ∧ ∀ x H', J.yld i H x H' → gOf G.K tg x (wipe σ vs) H' fun σ2 H2 => wipe σ2 vs = wipe σ vs ∧ tt σ2 H2 fun b H3 =>
        if b = true then wi1 σ2 H3 fun J1 H4 => ∃ W1 : Nat → Nat → Hp → Prop, (∃ m, W1 0 m H4) ∧ ∀ j k H, W1 j k H →
          (J1.stop j H ∧ Nx H) ∨ (J1.go j H ∧ ∃ Nx1 : Hp → Prop, (∀ H', Nx1 H' → ∃ k', k' < k ∧ W1 (j + 1) k' H') ∧ ∀ x H', J1.yld j H x H' → gOf G.K tg1 x (wipe σ2 vs1) H' fun σ3 H5 => wipe σ3 vs1 = wipe σ2 vs1 ∧ tt1 σ3 H5 fun b H6 =>
            if b = true then te σ3 H6 fun y H7 => ∃ acc, H7 D0 = some (.lst acc) ∧ acc.length < sizeLine ∧ Nx1 (upd H7 D0 (.lst (acc ++ [y]))) else Nx1 H6)
        else Nx H3) := by
  intro D0 nD
  have nB : D0 ∉ G.B := R.fresh_base nD
  have hw := (R.wipe vs)
  unfold mComp2 at q
  split at q
  · rename_i hno
    cases ec : compGo2 tg mc tg1 vs1 mi1 mc1 me (wipeEn en vs) ds [] with
    | none => rw [ec] at q; exact q.elim
    | some fin =>
      rw [ec] at q
      dsimp only at q
      let Inv : Nat → Nat → Hp → Prop := fun i m H' => i + m = ds.length ∧ ∃ (L' : List Addr) (acc : List D) (xs : List V), RelS (G.blk D0 xs) L' (wipe σ vs) H' (wipeEn en vs) ∧ Same (hid H L) (hid H' L') ∧ DqAll G.K (hid H' L') xs acc ∧
        compGo2 tg mc tg1 vs1 mi1 mc1 me (wipeEn en vs) (ds.drop i) acc = some fin
      refine ⟨Inv, ⟨ds.length, by omega, D0 :: L, [], [], hw.toBlk nD, hid_new nD, .nil, ec⟩, ?_⟩
      rintro i m H1 ⟨hm, L1, acc, xs, R1, s1, hacc, e1⟩
      have hD : H1 D0 = some (.lst xs) := (R1.base D0 List.mem_cons_self).2.1.trans upd_same
      have mD : D0 ∈ L1 := (R1.base D0 List.mem_cons_self).1
      have hok := k (G.blk D0 xs) H1 L1 rfl R1 s1
      by_cases hi : i < ds.length
      · obtain ⟨d, hd⟩ : ∃ d, ds[i]? = some d := ⟨ds[i], List.getElem?_eq_getElem hi⟩
        have hdrop : ds.drop i = d :: ds.drop (i + 1) := by
          rw [List.drop_eq_getElem_cons hi]
          rw [List.getElem?_eq_getElem hi] at hd
          cases hd
          rfl
        rw [hdrop] at e1
        unfold compGo2 at e1
        refine .inr ⟨W.go i H1 L1 hok hi, fun H' => ∃ (L' : List Addr) (acc : List D) (xs : List V), RelS (G.blk D0 xs) L' (wipe σ vs) H' (wipeEn en vs) ∧ Same (hid H L) (hid H' L') ∧ DqAll G.K (hid H' L') xs acc ∧
          compGo2 tg mc tg1 vs1 mi1 mc1 me (wipeEn en vs) (ds.drop (i + 1)) acc = some fin, fun H' n => ⟨m - 1, by omega, by omega, n⟩, fun x H2 hy => ?_⟩
        obtain ⟨s2, hx⟩ := W.yld i H1 L1 x H2 d hok hd hy R1.own
        have R2 := R1.grow s2
        cases e2 : setTg tg d (wipeEn en vs) with
        | none => rw [e2] at e1; cases e1
        | some en1 =>
          rw [e2] at e1
          dsimp only at e1
          obtain ⟨hl1, ho1⟩ := setTg_out e2
          refine g_run (G := G.blk D0 xs) R2 hx e2 fun σ2 R3 k3 => ?_
          have hwσ : wipe σ2 vs = wipe σ vs := by
            have := wipe_same (σ := wipe σ vs) (σ' := σ2) (vs := vs) (by rw [R2.len, R3.len, hl1]) fun j hj => k3 j fun z => hj (hsub j z)
            rw [this]
            exact wipe_same (by rw [wipe_length]) fun j hj => wipe_keeps σ vs j hj
          have hwe : wipeEn en1 vs = wipeEn en vs := by
            rw [wipeEn_same (en := wipeEn en vs) (en' := en1) hl1.symm fun j hj => ho1 j fun z => hj (hsub j z)]
            exact wipeEn_same (by rw [wipeEn_len]) fun j hj => wipeEn_out en hj
          have back : ∀ {xs' : List V} {L' : List Addr} {H' : Hp}, RelS (G.blk D0 xs') L' σ2 H' en1 → RelS (G.blk D0 xs') L' (wipe σ vs) H' (wipeEn en vs) := fun r => by
            have z := r.wipe vs
            rw [hwσ, hwe] at z
            exact z
          have back1 : ∀ {xs' : List V} {L' : List Addr} {H' : Hp}, RelS (G.blk D0 xs') L' (wipe σ2 vs1) H' (wipeEn en1 vs1) → RelS (G.blk D0 xs') L' (wipe σ vs) H' (wipeEn en vs) := fun r => by
            have z := r.wipe vs
            rw [wipe_twice hvs, wipeEn_twice hvs, hwσ, hwe] at z
            exact z
          refine ⟨hwσ, ht D0 xs σ2 H2 _ ⟨en1, L1, R3, ?_⟩⟩
          have s12 : Same (hid H1 L1) (hid H2 L1) := hid_mono s2
          cases e3 : mc en1 with
          | stuck => rw [e3] at e1; cases e1
          | exc _ _ => rw [e3] at e1; cases e1
          | ok b en2 =>
            rw [e3] at e1
            intro H3 L3 R4 s3
            cases b with
            | false =>
              dsimp only at e1
              split at e1
              · rename_i he2
                subst he2
                rw [if_neg Bool.false_ne_true]
                exact ⟨L3, acc, xs, back R4, s1.trans (s12.trans s3), DqAll.mono (s12.trans s3) _ hacc, e1⟩
              · cases e1
            | true =>
              dsimp only at e1
              split at e1
              · rename_i he2
                subst he2
                rw [if_pos rfl]
                refine hi1 D0 xs σ2 H3 _ ⟨en2, L3, R4, ?_⟩
                cases e4 : mfrz mi1 en2 with
                | stuck => rw [e4] at e1; cases e1
                | exc _ _ => rw [e4] at e1; cases e1
                | ok sv en3 =>
                  rw [e4] at e1
                  cases sv with
                  | own _ => cases e1
                  | bor _ => cases e1
                  | d y =>
                    cases y with
                    | tuple ds1 =>
                      dsimp only at e1
                      split at e1
                      · rename_i he3
                        subst he3
                        cases e5 : compGo tg1 mc1 me (wipeEn en3 vs1) ds1 acc with
                        | none => rw [e5] at e1; cases e1
                        | some acc2 =>
                          rw [e5] at e1
                          dsimp only at e1
                          intro v H4 L4 R5 s4 hv
                          have st : Same (hid H1 L1) (hid H4 L4) := s12.trans (s3.trans s4)
                          cases hv with
                          | tup hs ha =>
                            refine .inr (.inl ⟨_, _, rfl, sqT_mono hid_same hs, ?_⟩)
                            exact inner_run nB R5 ⟨_, hs, ha⟩ (DqAll.mono st _ hacc) e5 hsub1 ht1 he fun H' L' xs' R6 s6 h6 => ⟨L', acc2, xs', back1 R6, s1.trans (st.trans s6), h6, e1⟩
                      · cases e1
                    | _ => cases e1
              · cases e1
      · have hi' : i = ds.length := by omega
        have hdrop : ds.drop i = [] := List.drop_eq_nil_of_le (by omega)
        rw [hdrop] at e1
        cases e1
        refine .inl ⟨W.stop i H1 L1 hok hi', ?_⟩
        have hbase := (R1.base D0 List.mem_cons_self).2.2
        have R2 : RelS G L1 (wipe σ vs) H1 (wipeEn en vs) := R1.ofBlk nB
        have nown : ∀ (j : Nat) (c : OB), en[j]? = some (some (SV.own c)) → j ∉ vs := fun j c ej mj => by
          have z := List.all_eq_true.mp hno j mj
          simp only [ej] at z
          cases z
        have R3 : RelS G L1 σ H1 en := by
          refine ⟨R2.own, R2.same, R.len, fun j sv ej => ?_, R.apart, fun a ma => ?_⟩
          · by_cases mj : j ∈ vs
            · have z := R.slot j sv ej
              cases sv with
              | d dd => obtain ⟨v, q1, q2⟩ := z; exact ⟨v, q1, Dq.mono s1 _ q2⟩
              | own c => exact absurd mj (nown j c ej)
              | bor _ => exact z
            · have z := R2.slot j sv (by rw [wipeEn_out _ mj]; exact ej)
              rw [wipe_keeps σ vs j mj] at z
              exact z
          · obtain ⟨h1, h2, h3⟩ := R2.base a ma
            refine ⟨h1, h2, fun j c ej => ?_⟩
            have mj := nown j c ej
            have z := h3 j c (by rw [wipeEn_out _ mj]; exact ej)
            rw [wipe_keeps σ vs j mj] at z
            exact z
        refine q _ H1 L1 R3 s1 ⟨D0, .lst xs, rfl, mD, nB, hD, hacc, fun j c ej => ?_⟩
        have mj := nown j c ej
        have z := hbase j c (by rw [wipeEn_out _ mj]; exact ej)
        rw [wipe_keeps σ vs j mj] at z
        exact z
  · exact q.elim
end
end L2

namespace L2
open PySem PySem.Spec PyProof.Rows
noncomputable def mLc2 (tg : Tg) (vs : List Nat) (mi : M SV) (mc : M Bool) (tg1 : Tg) (vs1 : List Nat) (mi1 : M SV) (mc1 : M Bool) (me : M SV) : M SV := mbind (mfrz mi) fun sv en => match sv with
  | .d (.list ds) => mComp2 tg vs mc tg1 vs1 mi1 mc1 me ds en
  | .d (.tuple ds) => mComp2 tg vs mc tg1 vs1 mi1 mc1 me ds en
  | .bor i => (match en[i]? with
    | some (some (.own (.lst ds))) => if vs.contains i then .stuck else mComp2 tg vs mc tg1 vs1 mi1 mc1 me ds en
    | _ => .stuck)
  | _ => .stuck
noncomputable def mLc2E (tg : Tg) (vs : List Nat) (mi : M SV) (mc : M Bool) (tg1 : Tg) (vs1 : List Nat) (mi1 : M SV) (mc1 : M Bool) (me : M SV) : M SV := mbind (mfrz mi) fun sv en => match sv with
  | .d (.tuple ds) => mComp2 tg vs mc tg1 vs1 mi1 mc1 me (enumD ds) en
  | _ => .stuck
section
variable {X : Cx} {G : Gs} {elt t t1 iter iter1 : Expr} {ifs ifs1 : List Expr} {scope : Scope} {own : List (Str × Nat)} {vs1 : List Nat} {mi mi1 me : M SV} {mc mc1 : M Bool} {tg tg1 : Tg} {pos : Pos} {tt tt1 : TT} {te : TE} {wi1 : TI}
theorem lc2_imp (hsub : ∀ j ∈ tg.slots, j ∈ own.map (·.2)) (hsub1 : ∀ j ∈ tg1.slots, j ∈ vs1) (hvs : ∀ j ∈ vs1, j ∈ own.map (·.2)) (ht : ∀ (D0 : Addr) (xs : List V) (σ' : St) (H' : Hp) Q, tT (G.blk D0 xs) mc σ' H' Q → tt σ' H' Q) (hi1 : ∀ (D0 : Addr) (xs : List V) (σ' : St) (H' : Hp) Q, iAny G.K (tE (G.blk D0 xs) (mfrz mi1)) σ' H' Q → wi1 σ' H' Q)
    (ht1 : ∀ (D0 : Addr) (xs : List V) (σ' : St) (H' : Hp) Q, tT (G.blk D0 xs) mc1 σ' H' Q → tt1 σ' H' Q) (he : ∀ (D0 : Addr) (xs : List V) (σ' : St) (H' : Hp) Q, tE (G.blk D0 xs) (mkeep me) σ' H' Q → te σ' H' Q)
    (σ : St) (H : Hp) (Q : VK) (h : tE G (mLc2 tg (own.map (·.2)) mi mc tg1 vs1 mi1 mc1 me) σ H Q) : tLc2 (iAny G.K (tE G (mfrz mi))) (gOf G.K tg) tt wi1 (gOf G.K tg1) tt1 te (own.map (·.2)) vs1 σ H Q := by
  obtain ⟨en, L, R, q⟩ := h
  refine (seqE R q).mono fun v H1 ⟨en1, L1, sv, R1, s1, r1, q1⟩ => ?_
  cases sv with
  | own _ => exact q1.elim
  | bor i =>
    obtain ⟨e1, b, e2⟩ := r1
    simp only [e2] at q1
    cases b with
    | dct _ => exact q1.elim
    | lst ds =>
      dsimp only at q1
      split at q1
      · exact q1.elim
      · rename_i hni
        obtain ⟨a, xs, e3, ma, ho, hr⟩ := slot_lst R1 e2
        rw [e1] at e3
        cases e3
        have mi' : i ∉ own.map (·.2) := fun z => hni (List.contains_iff_mem.mpr z)
        refine .inl ⟨a, xs, rfl, .of ho, comp2_run walks_list R1 q1 hsub hsub1 hvs (fun G' H' L' hK R' s' => ?_) ht hi1 ht1 he⟩
        obtain ⟨a', xs', e4, _, ho', hr'⟩ := slot_lst R' (i := i) (ds := ds) (by rw [wipeEn_out _ mi']; exact e2)
        rw [wipe_keeps σ _ i mi', e1] at e4
        cases e4
        rw [hK] at hr'
        exact ⟨xs', ho', hr'⟩
  | d d =>
    cases d with
    | list ds =>
      cases r1 with
      | lst hs ha => exact .inl ⟨_, _, rfl, .of (hid_same _ _ hs), comp2_run walks_list R1 q1 hsub hsub1 hvs (fun G' H' L' hK R' s' => ⟨_, hid_same _ _ (s' _ _ hs), DqAll.mono s' _ ha⟩) ht hi1 ht1 he⟩
    | tuple ds =>
      cases r1 with
      | tup hs ha => exact .inr (.inl ⟨_, _, rfl, sqT_mono hid_same hs, comp2_run walks_tup R1 q1 hsub hsub1 hvs (fun G' H' L' hK R' s' => ⟨_, sqT_mono hid_same (sqT_mono s' hs), DqAll.mono s' _ ha⟩) ht hi1 ht1 he⟩)
    | _ => exact q1.elim
theorem lc2E_imp (hsub : ∀ j ∈ tg.slots, j ∈ own.map (·.2)) (hsub1 : ∀ j ∈ tg1.slots, j ∈ vs1) (hvs : ∀ j ∈ vs1, j ∈ own.map (·.2)) (ht : ∀ (D0 : Addr) (xs : List V) (σ' : St) (H' : Hp) Q, tT (G.blk D0 xs) mc σ' H' Q → tt σ' H' Q) (hi1 : ∀ (D0 : Addr) (xs : List V) (σ' : St) (H' : Hp) Q, iAny G.K (tE (G.blk D0 xs) (mfrz mi1)) σ' H' Q → wi1 σ' H' Q)
    (ht1 : ∀ (D0 : Addr) (xs : List V) (σ' : St) (H' : Hp) Q, tT (G.blk D0 xs) mc1 σ' H' Q → tt1 σ' H' Q) (he : ∀ (D0 : Addr) (xs : List V) (σ' : St) (H' : Hp) Q, tE (G.blk D0 xs) (mkeep me) σ' H' Q → te σ' H' Q)
    (σ : St) (H : Hp) (Q : VK) (h : tE G (mLc2E tg (own.map (·.2)) mi mc tg1 vs1 mi1 mc1 me) σ H Q) : tLc2 (iEnumT G.K (tE G (mfrz mi))) (gOf G.K tg) tt wi1 (gOf G.K tg1) tt1 te (own.map (·.2)) vs1 σ H Q := by
  obtain ⟨en, L, R, q⟩ := h
  refine (seqE R q).mono fun v H1 ⟨en1, L1, sv, R1, s1, r1, q1⟩ => ?_
  cases sv with
  | own _ => exact q1.elim
  | bor i => exact q1.elim
  | d d =>
    cases d with
    | tuple ds =>
      cases r1 with
      | tup hs ha => exact ⟨_, _, rfl, sqT_mono hid_same hs, comp2_run walks_enum R1 q1 hsub hsub1 hvs (fun G' H' L' hK R' s' => ⟨_, sqT_mono s' hs, DqAll.mono s' _ ha⟩) ht hi1 ht1 he⟩
    | _ => exact q1.elim
/-- what stands in the block -/
structure InBlk2 (X : Cx) (G : Gs) (scope : Scope) (t elt : Expr) (ifs : List Expr) (t1 iter1 : Expr) (ifs1 : List Expr) (tg : Tg) (mc : M Bool) (tg1 : Tg) (mi1 : M SV) (mc1 : M Bool) (me : M SV) : Prop where
  g : ∀ (s : Shared) (H : Hp) (C : Addr) (cl : List (Str × Addr)) (fp : List Addr), PG (X.blk s H scope (compEnvC scope cl C X.env) fp) t (gOf X.K tg)
  c : ∀ (s : Shared) (H : Hp) (C : Addr) (cl : List (Str × Addr)) (fp : List Addr) (D0 : Addr) (xs : List V), PTs (X.blk s H scope (compEnvC scope cl C X.env) fp) ifs (tT (G.blk D0 xs) mc)
  g1 : ∀ (s : Shared) (H : Hp) (C : Addr) (cl : List (Str × Addr)) (fp : List Addr), PG (X.blk s H scope (compEnvC scope cl C X.env) fp) t1 (gOf X.K tg1)
  i1 : ∀ (s : Shared) (H : Hp) (C : Addr) (cl : List (Str × Addr)) (fp : List Addr) (D0 : Addr) (xs : List V), PE (X.blk s H scope (compEnvC scope cl C X.env) fp) iter1 (tE (G.blk D0 xs) mi1)
  c1 : ∀ (s : Shared) (H : Hp) (C : Addr) (cl : List (Str × Addr)) (fp : List Addr) (D0 : Addr) (xs : List V), PTs (X.blk s H scope (compEnvC scope cl C X.env) fp) ifs1 (tT (G.blk D0 xs) mc1)
  e : ∀ (s : Shared) (H : Hp) (C : Addr) (cl : List (Str × Addr)) (fp : List Addr) (D0 : Addr) (xs : List V), PE (X.blk s H scope (compEnvC scope cl C X.env) fp) elt (tE (G.blk D0 xs) me)
theorem PI.ex {ι : Type} {X : Cx} {t e : Expr} {w : ι → TI} (h : ∀ i, PI X t e (w i)) : PI X t e (fun σ H R => ∃ i, w i σ H R) := ⟨fun pins s σ H R I ⟨i, q⟩ => (h i).run pins s σ H R I q⟩
abbrev exI (G : Gs) (mi1 : M SV) : TI := fun σ H R => ∃ p : Addr × List V, iAny G.K (tE (G.blk p.1 p.2) (mfrz mi1)) σ H R
theorem InBlk2.pi (B : InBlk2 X G scope t elt ifs t1 iter1 ifs1 tg mc tg1 mi1 mc1 me) (hK : X.K = G.K) (s : Shared) (H : Hp) (C : Addr) (cl : List (Str × Addr)) (fp : List Addr) : PI (X.blk s H scope (compEnvC scope cl C X.env) fp) t1 iter1 (exI G mi1) :=
  PI.ex fun p => by
    have z : PI (X.blk s H scope (compEnvC scope cl C X.env) fp) t1 iter1 (iAny X.K (tE (G.blk p.1 p.2) (mfrz mi1))) := pi_any (je_frz (B.i1 s H C cl fp p.1 p.2))
    rw [hK] at z
    exact z
theorem je_lc2 (hc : X.calm = true) (hN : X.N.Nodup) (hK : X.K = G.K) (hi : PE X iter (tE G mi)) (ok : BlkOk X.N X.env.scope scope own) (hvs : ∀ j ∈ vs1, j ∈ own.map (·.2)) (B : InBlk2 X G scope t elt ifs t1 iter1 ifs1 tg mc tg1 mi1 mc1 me) (hsub : ∀ j ∈ tg.slots, j ∈ own.map (·.2)) (hsub1 : ∀ j ∈ tg1.slots, j ∈ vs1)
    (hs : ∀ x, foldedSetIterable iter X.env x = pure x := by intro _; rfl) (hs1 : ∀ env x, foldedSetIterable iter1 env x = pure x := by intro _ _; rfl) : PE X (.ListComp elt [⟨t, iter, ifs, 0⟩, ⟨t1, iter1, ifs1, 0⟩] scope pos) (tE G (mLc2 tg (own.map (·.2)) mi mc tg1 vs1 mi1 mc1 me)) :=
  (pe_lc2 (tt := exT G mc) (tt1 := exT G mc1) (te := exE G me) (wi1 := exI G mi1) hc hN (pi_any (je_frz hi)) ok hvs B.g (fun s H C cl fp => PTs.ex fun p => B.c s H C cl fp p.1 p.2) (fun s H C cl fp => B.pi hK s H C cl fp) B.g1 (fun s H C cl fp => PTs.ex fun p => B.c1 s H C cl fp p.1 p.2) (fun s H C cl fp => PE.ex fun p => je_keep (B.e s H C cl fp p.1 p.2)) hs hs1).imp fun σ H Q h => by
    rw [hK]
    exact lc2_imp hsub hsub1 hvs (fun D0 xs _ _ _ q => ⟨(D0, xs), q⟩) (fun D0 xs _ _ _ q => ⟨(D0, xs), q⟩) (fun D0 xs _ _ _ q => ⟨(D0, xs), q⟩) (fun D0 xs _ _ _ q => ⟨(D0, xs), q⟩) σ H Q h
theorem je_lc2E {elts : List Expr} {kk : Nat} {tpos p pos' : Pos} (hc : X.calm = true) (hN : X.N.Nodup) (hK : X.K = G.K) (hgl : Gl X "enumerate") (hm : X.mg "enumerate" = none) (hi : PE X iter (tE G mi)) (ok : BlkOk X.N X.env.scope scope own) (hvs : ∀ j ∈ vs1, j ∈ own.map (·.2))
    (B : InBlk2 X G scope (.Tuple elts kk tpos) elt ifs t1 iter1 ifs1 tg mc tg1 mi1 mc1 me) (hsub : ∀ j ∈ tg.slots, j ∈ own.map (·.2)) (hsub1 : ∀ j ∈ tg1.slots, j ∈ vs1)
    (hse : starEach [iter] X.env = (false, eval iter X.env) :: starEach [] X.env := by rfl) (hs : ∀ x, foldedSetIterable (.Call (.Name "enumerate" p) [iter] [] pos') X.env x = pure x := by intro _; rfl) (hs1 : ∀ env x, foldedSetIterable iter1 env x = pure x := by intro _ _; rfl) :
    PE X (.ListComp elt [⟨.Tuple elts kk tpos, .Call (.Name "enumerate" p) [iter] [] pos', ifs, 0⟩, ⟨t1, iter1, ifs1, 0⟩] scope pos) (tE G (mLc2E tg (own.map (·.2)) mi mc tg1 vs1 mi1 mc1 me)) :=
  (pe_lc2 (tt := exT G mc) (tt1 := exT G mc1) (te := exE G me) (wi1 := exI G mi1) hc hN (pi_enumT hgl hm (je_frz hi) hse) ok hvs B.g (fun s H C cl fp => PTs.ex fun p => B.c s H C cl fp p.1 p.2) (fun s H C cl fp => B.pi hK s H C cl fp) B.g1 (fun s H C cl fp => PTs.ex fun p => B.c1 s H C cl fp p.1 p.2) (fun s H C cl fp => PE.ex fun p => je_keep (B.e s H C cl fp p.1 p.2)) hs hs1).imp fun σ H Q h => by
    rw [hK]
    exact lc2E_imp hsub hsub1 hvs (fun D0 xs _ _ _ q => ⟨(D0, xs), q⟩) (fun D0 xs _ _ _ q => ⟨(D0, xs), q⟩) (fun D0 xs _ _ _ q => ⟨(D0, xs), q⟩) (fun D0 xs _ _ _ q => ⟨(D0, xs), q⟩) σ H Q h
end
end L2

namespace L2
open PySem PySem.Spec PyProof.Rows
/-! ### {k: v for x in xs for y in ys} -/
abbrev DC2 (kx vx t0 i0 t1 i1 : Expr) (ifs0 ifs1 : List Expr) (scope : Scope) (pos : Pos) : Expr := .DictComp kx vx [⟨t0, i0, ifs0, 0⟩, ⟨t1, i1, ifs1, 0⟩] scope pos
section
variable {prog : Program} {w : World} {A : Around} {R : Result → Shared → Prop} {s : Shared} {kx vx t0 i0 t1 i1 : Expr} {ifs0 ifs1 : List Expr} {scope : Scope} {pos : Pos} {it acc : Value} {D : Addr} {env : Env}
theorem dturn_out : compTurn (DC2 kx vx t0 i0 t1 i1 ifs0 ifs1 scope pos) 0 it acc env = (do
    standAt i0.pos
    match ← pyNext it with
    | none => pure (.done .next)
    | some v =>
      letOwnedTupleGo t0 it v
      assign t0 env v
      let mut ok := true
      for c in ifs0 do
        if ok then ok ← isTrue c env (eval c env)
      if ok then
        let x ← eval i1 env
        standAt i1.pos
        let x ← foldedSetIterable i1 env x
        let _ ← runOwn (.compStart (DC2 kx vx t0 i0 t1 i1 ifs0 ifs1 scope pos) 1 (← holding [x] (pyIter x)) acc env) env
      again (.compLoop (DC2 kx vx t0 i0 t1 i1 ifs0 ifs1 scope pos) 0 it acc env)) := by rfl
theorem dturn_in : compTurn (DC2 kx vx t0 i0 t1 i1 ifs0 ifs1 scope pos) 1 it (.ref D) env = (do
    standAt i1.pos
    match ← pyNext it with
    | none => pure (.done .next)
    | some v =>
      letOwnedTupleGo t1 it v
      assign t1 env v
      let mut ok := true
      for c in ifs1 do
        if ok then ok ← isTrue c env (eval c env)
      if ok then
        (do
          let kv ← eval kx env
          let vv ← holding [kv] (eval vx env)
          standAt { kx.pos with endLine := vx.pos.endLine, endCol := vx.pos.endCol }
          holding [kv, vv] (dictSet D kv vv))
      again (.compLoop (DC2 kx vx t0 i0 t1 i1 ifs0 ifs1 scope pos) 1 it (.ref D) env)) := by rfl
abbrev nB (prog : Program) (w : World) (A : Around) (env : Env) (R : Result → Shared → Prop) := notedBy (model prog w) A env fun e s' => R (.error e) s'
theorem dloop_out (hs : ∀ x, foldedSetIterable i1 env x = pure x) (I : Nat → Shared → Prop)
    (turn : ∀ n s, I n s → wpAny (model prog w) A (pyNext it) (fun r s₁ => match r with
      | none => R (.ok .next) s₁
      | some v => wpAny (model prog w) A (letOwnedTupleGo t0 it v) (fun _ s₁' => wpAny (model prog w) A (assign t0 env v) (fun _ s₂ =>
          wpAny (model prog w) A (forIn ifs0 true fun c r => if r = true then do let ok ← isTrue c env (eval c env); pure (ForInStep.yield ok) else pure (ForInStep.yield r)) (fun ok s₃ =>
            if ok = true then wpAny (model prog w) A (eval i1 env) (fun x s₄ => wpAny (model prog w) A (pyIter x) (fun it1 s₅ =>
              codeAny (model prog w) A (.compStart (DC2 kx vx t0 i0 t1 i1 ifs0 ifs1 scope pos) 1 it1 acc env) (fun r s' => match r with
                | .ok _ => ∃ m, m < n ∧ I m s'
                | .error _ => False) s₅) (nB prog w A env R) s₄) (nB prog w A env R) s₃
            else ∃ m, m < n ∧ I m s₃) (nB prog w A env R) s₂) (nB prog w A env R) s₁') (nB prog w A env R) s₁) (nB prog w A env R) s)
    (n : Nat) (h : I n s) : codeAny (model prog w) A (.compLoop (DC2 kx vx t0 i0 t1 i1 ifs0 ifs1 scope pos) 0 it acc env) R s := by
  refine codeAny_loop rfl I (fun n s hI => ?_) n h
  show wpAny _ A ((compTurn (DC2 kx vx t0 i0 t1 i1 ifs0 ifs1 scope pos) 0 it acc env).onRaise (fun x => do noteFrame x env; theTreesLotGoes x)) _ _ s
  refine wpAny_noted ?_
  rw [dturn_out]
  refine wpAny_bind (wpAny_standAt (wpAny_bind (wpAny_mono (turn n s hI) (fun r s₁ h₁ => ?_) fun _ _ h' => h')))
  cases r with
  | none => exact wpAny_pure h₁
  | some v =>
    refine wpAny_bind (wpAny_mono h₁ (fun _ _ a1 => wpAny_bind (wpAny_mono a1 (fun _ _ a2 => wpAny_bind (wpAny_mono a2 (fun ok s₃ a3 => ?_) fun _ _ h' => h')) fun _ _ h' => h')) fun _ _ h' => h')
    cases ok with
    | false => exact wpAny_pure ⟨rfl, a3⟩
    | true =>
      refine wpAny_bind (wpAny_mono a3 (fun x s₄ a4 => ?_) fun _ _ h' => h')
      refine wpAny_bind (wpAny_standAt (wpAny_bind (wpAny_of_eq (hs x) (wpAny_bind (wpAny_holding (wpAny_mono a4 (fun it1 s₅ a5 => ?_) fun _ _ h' => h'))))))
      refine wpAny_bind (wpAny_runOwn ?_)
      rw [Around.mark_none]
      refine codeAny_mono a5 fun r s' hr => ?_
      cases r with
      | ok f => first | exact wpAny_pure ⟨rfl, hr⟩ | exact wpAny_bind (wpAny_pure (wpAny_pure ⟨rfl, hr⟩))
      | error e => exact hr.elim
theorem dloop_in (I : Nat → Shared → Prop)
    (turn : ∀ n s, I n s → wpAny (model prog w) A (pyNext it) (fun r s₁ => match r with
      | none => R (.ok .next) s₁
      | some v => wpAny (model prog w) A (letOwnedTupleGo t1 it v) (fun _ s₁' => wpAny (model prog w) A (assign t1 env v) (fun _ s₂ =>
          wpAny (model prog w) A (forIn ifs1 true fun c r => if r = true then do let ok ← isTrue c env (eval c env); pure (ForInStep.yield ok) else pure (ForInStep.yield r)) (fun ok s₃ =>
            if ok = true then wpAny (model prog w) A (eval kx env) (fun kv s₄ => wpAny (model prog w) A (eval vx env) (fun vv s₅ =>
              wpAny (model prog w) A (dictSet D kv vv) (fun _ s₆ => ∃ m, m < n ∧ I m s₆) (nB prog w A env R) s₅) (nB prog w A env R) s₄) (nB prog w A env R) s₃
            else ∃ m, m < n ∧ I m s₃) (nB prog w A env R) s₂) (nB prog w A env R) s₁') (nB prog w A env R) s₁) (nB prog w A env R) s)
    (n : Nat) (h : I n s) : codeAny (model prog w) A (.compLoop (DC2 kx vx t0 i0 t1 i1 ifs0 ifs1 scope pos) 1 it (.ref D) env) R s := by
  refine codeAny_loop rfl I (fun n s hI => ?_) n h
  show wpAny _ A ((compTurn (DC2 kx vx t0 i0 t1 i1 ifs0 ifs1 scope pos) 1 it (.ref D) env).onRaise (fun x => do noteFrame x env; theTreesLotGoes x)) _ _ s
  refine wpAny_noted ?_
  rw [dturn_in]
  refine wpAny_bind (wpAny_standAt (wpAny_bind (wpAny_mono (turn n s hI) (fun r s₁ h₁ => ?_) fun _ _ h' => h')))
  cases r with
  | none => exact wpAny_pure h₁
  | some v =>
    refine wpAny_bind (wpAny_mono h₁ (fun _ _ a1 => wpAny_bind (wpAny_mono a1 (fun _ _ a2 => wpAny_bind (wpAny_mono a2 (fun ok s₃ a3 => ?_) fun _ _ h' => h')) fun _ _ h' => h')) fun _ _ h' => h')
    cases ok with
    | false => exact wpAny_pure ⟨rfl, a3⟩
    | true =>
      exact wpAny_bind (wpAny_bind (wpAny_mono a3 (fun kv _ a4 => wpAny_bind (wpAny_holding (wpAny_mono a4 (fun vv _ a5 => wpAny_bind (wpAny_standAt (wpAny_holding (wpAny_mono a5 (fun _ _ a6 => wpAny_pure ⟨rfl, a6⟩) fun _ _ h' => h')))) fun _ _ h' => h'))) fun _ _ h' => h'))
theorem dstart1 (h0 : codeAny (model prog w) A (.compLoop (DC2 kx vx t0 i0 t1 i1 ifs0 ifs1 scope pos) 1 it acc env) R s)
    (h : wpAny (model prog w) A (pyIter it) (fun it' s' => codeAny (model prog w) A (.compLoop (DC2 kx vx t0 i0 t1 i1 ifs0 ifs1 scope pos) 1 it' acc env) R s') (notedBy (model prog w) A env fun x s' => R (.error x) s') s) :
    codeAny (model prog w) A (.compStart (DC2 kx vx t0 i0 t1 i1 ifs0 ifs1 scope pos) 1 it acc env) R s := by
  refine codeAny_of_tree ?_
  show wpAny _ _ ((compStart (DC2 kx vx t0 i0 t1 i1 ifs0 ifs1 scope pos) 1 it acc env).onRaise (fun x => do noteFrame x env; standAt theWindowsPlace)) _ _ s
  refine wpAny_notedAt ?_
  unfold compStart
  show wpAny _ _ (ask >>= _) _ _ s
  refine wpAny_bind (wpAny_askSetting (wpAny_ite ?_))
  split
  · first
      | exact wpAny_bind (wpAny_pure (wpAny_pure (And.intro rfl h0)))
      | exact wpAny_pure (And.intro rfl h0)
  · first
      | exact wpAny_bind (wpAny_rule (wpAny_bind (wpAny_standAt (wpAny_bind (wpAny_mono h (fun it' s' h' => wpAny_pure (And.intro rfl h')) fun _ _ x => x)))))
      | (refine wpAny_bind (wpAny_rule ?_); show wpAny _ _ (standAt i1.pos >>= _) _ _ s; exact wpAny_bind (wpAny_standAt (wpAny_bind (wpAny_mono h (fun it' s' h' => wpAny_pure (And.intro rfl h')) fun _ _ x => x))))
end
section
variable {X : Cx}
def tDc2 (wi : TI) (g : TG) (tt : TT) (wi1 : TI) (g1 : TG) (tt1 : TT) (tk tv : TE) (vs vs1 : List Nat) : TE := fun σ H Q => wi σ H fun J H1 => ∀ D, H1 D = none → ∃ W : Nat → Nat → Hp → Prop, (∃ m, W 0 m (upd H1 D (.dK []))) ∧ ∀ i m H, W i m H →
  (J.stop i H ∧ Q (.ref D) H) ∨ (J.go i H ∧ ∃ Nx : Hp → Prop, (∀ H', Nx H' → ∃ m', m' < m ∧ W (i + 1) m' H') ∧ ∀ x H', J.yld i H x H' → g x (wipe σ vs) H' fun σ2 H2 => wipe σ2 vs = wipe σ vs ∧ tt σ2 H2 fun b H3 =>
    if b = true then wi1 σ2 H3 fun J1 H4 => ∃ W1 : Nat → Nat → Hp → Prop, (∃ m, W1 0 m H4) ∧ ∀ j k H, W1 j k H →
      (J1.stop j H ∧ Nx H) ∨ (J1.go j H ∧ ∃ Nx1 : Hp → Prop, (∀ H', Nx1 H' → ∃ k', k' < k ∧ W1 (j + 1) k' H') ∧ ∀ x H', J1.yld j H x H' → g1 x (wipe σ2 vs1) H' fun σ3 H5 => wipe σ3 vs1 = wipe σ2 vs1 ∧ tt1 σ3 H5 fun b H6 =>
        if b = true then tk σ3 H6 fun y H7 => tv σ3 H7 fun z H8 => ∃ kvs k, y = kV k ∧ H8 D = some (.dK kvs) ∧ kvs.length < sizeLine ∧ Nx1 (upd H8 D (.dK (putK kvs k z))) else Nx1 H6)
    else Nx H3)
abbrev InBk (X : Cx) (scope : Scope) (P : Cx → Prop) : Prop := ∀ (s : Shared) (H : Hp) (C : Addr) (cl : List (Str × Addr)) (fp : List Addr), P (X.blk s H scope (compEnvC scope cl C X.env) fp)
theorem dc2_core {pins : List (Addr × Obj)} {s : Shared} {σ : St} {H : Hp} {Q : VK} {kx vx tg iter tg1 iter1 : Expr} {ifs ifs1 : List Expr} {scope : Scope} {own : List (Str × Nat)} {vs1 : List Nat} {pos pos' : Pos} {wi wi1 : TI} {g g1 : TG} {tt tt1 : TT} {tk tv : TE} {use : Option (Value → Sem Unit)} {Qf : Value → Shared → Prop}
    (hc : X.calm = true) (hN : X.N.Nodup) (I : Inv X pins σ H s) (hi : PI X tg iter wi) (ok : BlkOk X.N X.env.scope scope own) (hv : ∀ i ∈ vs1, i ∈ own.map (·.2))
    (hg : InBk X scope fun Y => PG Y tg g) (ht : InBk X scope fun Y => PTs Y ifs tt) (hk : InBk X scope fun Y => PE Y kx tk) (he : InBk X scope fun Y => PE Y vx tv) (hs : ∀ x, foldedSetIterable iter X.env x = pure x)
    (hi1 : InBk X scope fun Y => PI Y tg1 iter1 wi1) (hg1 : InBk X scope fun Y => PG Y tg1 g1) (ht1 : InBk X scope fun Y => PTs Y ifs1 tt1) (hs1 : ∀ env x, foldedSetIterable iter1 env x = pure x)
    (h : tDc2 wi g tt wi1 g1 tt1 tk tv (own.map (·.2)) vs1 σ H Q)
    (hRR : ∀ D C s' m H', Inv X pins σ H' s' → Q (.ref D) H' → s'.heap.Ns C m → FpOk X pins H' C → compPost (model X.prog X.w) X.A X.xe use Qf (.ref D) C (.ok .next) s') :
    wpAny (model X.prog X.w) X.A (comprehension (DC2 kx vx tg iter tg1 iter1 ifs ifs1 scope pos) scope X.env pos' newDict false (eval iter X.env) use) Qf X.xe s := by
  have hfree : ∀ y ∈ scope.names, y.2 = .free → ∃ c, X.env.cells.lookup y.1 = some c := fun y hy e => (ok.free y hy e).elim (fun k => I.ok.has _ (.inl k)) fun k => I.ok.has _ (.inr k)
  refine wpAny_comprehension_free (use := use) rfl hs (closure_ok hfree) ok.kind (fun y hy e => by rw [ok.uniq y hy, e])
    (thn (hi.run pins s σ H _ I h) fun xv s1 hx => thn hx fun itv s2 h2 => ?_)
  obtain ⟨it, fp, tn, J, H2, e, I2, T, st2, f2, q⟩ := h2
  subst e
  refine wpAny_newObj_type (newEnv_comp ?_)
  generalize hD : s2.heap.objs.size = D
  have hDn : H2 D = none := I2.hok.fresh (Nat.le_of_eq hD)
  obtain ⟨W, ⟨m0, w0⟩, turn⟩ := q D hDn
  generalize hs3 : ({ s2 with heap := s2.heap.push { cls := .type "dict", data := .dict #[] } } : Shared) = s3
  have I3 : Inv X pins σ (upd H2 D (.dK [])) s3 := by
    rw [← hs3]
    refine I2.laid (t' := s2.toks) (fun b o e => Heap.get?_push_of_some _ e) (Nat.le_of_eq hD) ?_
    rw [← hD]
    exact dk_empty s2.heap I2.big
  have h3 : s3.heap = s2.heap.push { cls := .type "dict", data := .dict #[] } := by rw [← hs3]
  have sz : ∀ b ∈ fp, b < s2.heap.objs.size := fun b hb => by
    obtain ⟨o, e, _⟩ := T.obj _ _ st2 b hb
    exact Heap.lt_size e
  have f3 : ∀ b ∈ fp, FpOk X pins (upd H2 D (.dK [])) b ∧ b < s3.heap.objs.size := fun b hb => by
    have hlt := sz b hb
    refine ⟨⟨?_, (f2 b hb).2⟩, by rw [h3, Heap.size_push]; exact Nat.lt_succ_of_lt hlt⟩
    rw [upd_ne (by rw [← hD]; exact Nat.ne_of_lt hlt)]
    exact (f2 b hb).1
  have st3 : tn 0 s3.heap := T.keep _ _ _ st2 fun b _ o e => by rw [h3]; exact Heap.get?_push_of_some _ e
  have I4 := block_start I3 ok hN f3
  generalize hcl : cellsFrom (s3.heap.objs.size + 1) scope.names (cloFrom X.env.cells scope.names []) = cls at I4
  have pg := hg s3 (upd H2 D (.dK [])) s3.heap.objs.size cls fp
  have pt := ht s3 (upd H2 D (.dK [])) s3.heap.objs.size cls fp
  have pk := hk s3 (upd H2 D (.dK [])) s3.heap.objs.size cls fp
  have pe := he s3 (upd H2 D (.dK [])) s3.heap.objs.size cls fp
  have pi1 := hi1 s3 (upd H2 D (.dK [])) s3.heap.objs.size cls fp
  have pg1 := hg1 s3 (upd H2 D (.dK [])) s3.heap.objs.size cls fp
  have pt1 := ht1 s3 (upd H2 D (.dK [])) s3.heap.objs.size cls fp
  show codeAny _ _ (.compStart (DC2 kx vx tg iter tg1 iter1 ifs ifs1 scope pos) 0 (.ref it) (.ref D) (compEnvC scope cls s3.heap.objs.size X.env)) (compPost (model X.prog X.w) X.A X.xe use Qf (.ref D) s3.heap.objs.size) { s3 with heap := pushCells (s3.heap.push { cls := .type "dict", data := .dict #[] }) scope.names }
  have nfp : ∀ b ∈ fp, (upd H2 D (.dK [])) b = none := fun b hb => (f3 b hb).1.1
  generalize hce : compEnvC scope cls s3.heap.objs.size X.env = ce at I4 pg pt pk pe pi1 pg1 pt1 ⊢
  have cL : ce.locals = s3.heap.objs.size := by subst hce; rfl
  generalize hH3 : upd H2 D (.dK []) = H3 at I3 I4 pg pt pk pe pi1 pg1 pt1 w0 nfp f3
  generalize hs4 : ({ s3 with heap := pushCells (s3.heap.push { cls := .type "dict", data := .dict #[] }) scope.names } : Shared) = s4 at I4 ⊢
  have st4 : tn 0 s4.heap := T.keep _ _ _ st3 fun b _ o e => by rw [← hs4]; exact pushCells_keeps _ _ _ _ (Heap.get?_push_of_some _ e)
  have stat : ∀ {σ' : St} {H' : Hp} {s' : Shared}, Inv (X.blk s3 H3 scope ce fp) [] σ' H' s' → (∀ b ∈ fp, H' b = none) → ∀ b ∈ fp, FpOk (X.blk s3 H3 scope ce fp) [] H' b := fun {σ' H' s'} I' hn b hb =>
    ⟨hn b hb, (I'.ok.exf b hb).1, I'.ok.exfs b hb, .inl hb, fun x c e => (I'.ok.exf b hb).2 x c e, fun p hp => absurd (show p ∈ ([] : List (Addr × Obj)) ++ [] from hp) (by simp)⟩
  have loop : codeAny (model X.prog X.w) X.A (.compLoop (DC2 kx vx tg iter tg1 iter1 ifs ifs1 scope pos) 0 (.ref it) (.ref D) ce) (compPost (model X.prog X.w) X.A X.xe use Qf (.ref D) s3.heap.objs.size) s4 := by
    let IO : Nat → Shared → Prop := fun n s' => ∃ i H', Inv (X.blk s3 H3 scope ce fp) [] (wipe σ (own.map (·.2))) H' s' ∧ tn i s'.heap ∧ (∀ b ∈ fp, H' b = none) ∧ W i n H'
    refine dloop_out (hs1 ce) IO ?_ m0 ⟨0, H3, I4, st4, nfp, w0⟩
    rintro n s5 ⟨i, H5, I5, st5, n5, w5⟩
    rcases turn i n H5 w5 with ⟨stop, qq⟩ | ⟨go, Nx, hNx, step⟩
    · have td := T.done (X.blk s3 H3 scope ce fp) rfl rfl rfl hc i [] s5 _ H5 (fun _ _ => False) I5 (stat I5 n5) st5 stop
      refine thnF td fun r s6 ⟨hr, I6⟩ => ?_
      subst hr
      have I7 : Inv X pins σ H5 s6 := I3.call' (ch := fp) I6.os I6.base I6.hok I6.bare fun b hb => ⟨(f3 b hb).1.2.2.2.1, (f3 b hb).1.2.1, (f3 b hb).1.2.2.2.2.1, (f3 b hb).1.2.2.2.2.2⟩
      have nC : H5 s3.heap.objs.size = none := by
        have z : H5 ce.locals = none := I6.free
        rw [cL] at z
        exact z
      obtain ⟨m, hn, _⟩ := I6.loc
      have hn : s6.heap.Ns ce.locals m := hn
      rw [cL] at hn
      exact hRR D s3.heap.objs.size s6 m H5 I7 qq hn (I3.fpOk (Nat.le_refl _) nC)
    · have ti := T.item (X.blk s3 H3 scope ce fp) rfl rfl rfl hc i [] s5 _ H5 (fun _ _ => False) I5 (stat I5 n5) st5 go
      refine thnF ti fun r s6 ⟨u, hr, h6⟩ => ?_
      subst hr
      refine thnF h6 fun _ s7 ⟨x, H7, I7, r7, y7, st7, n7⟩ => ?_
      have I7' := I7.pinned (stat I7 n7) (T.obj _ _ st7)
      refine thnF (pg.run _ s7 _ H7 x u _ I7' r7 (step x H7 y7)) fun _ s8 ⟨σ8, H8, I8, hw8, q8⟩ => ?_
      refine thnF (pt.run _ s8 σ8 H8 _ I8 q8) fun b s9 ⟨H9, I9, q9⟩ => ?_
      have fin : ∀ {σ9 : St} {s' : Shared} {H' : Hp}, Inv (X.blk s3 H3 scope ce fp) ([] ++ pinsAt fp s7.heap) σ9 H' s' → (wipe σ (own.map (·.2))).length = σ9.length → (∀ (j : Nat) v, (wipe σ (own.map (·.2)))[j]? = some (some v) → σ9[j]? = some (some v)) → Nx H' → ∃ m, m < n ∧ IO m s' := fun {σ9 s' H'} I' hl hk nx => by
        obtain ⟨m', hm, w'⟩ := hNx H' nx
        have pin' : ∀ b ∈ fp, ∀ o, s7.heap.get? b = some o → s'.heap.get? b = some o ∧ H' b = none := fun b hb o e =>
          let z := I'.pin (b, o) (List.mem_append_right _ (List.mem_append_right _ (mem_pinsAt hb e)))
          ⟨z.1, z.2.1⟩
        refine ⟨m', hm, i + 1, H', (I'.unpinned (pins := [])).weak hl hk, T.keep _ _ _ st7 fun b hb o e => (pin' b hb o e).1, fun b hb => ?_, w'⟩
        obtain ⟨o, e, _⟩ := T.obj _ _ st7 b hb
        exact (pin' b hb o e).2
      have hl8 : (wipe σ (own.map (·.2))).length = σ8.length := by rw [← hw8, wipe_length]
      have hk8 : ∀ (j : Nat) v, (wipe σ (own.map (·.2)))[j]? = some (some v) → σ8[j]? = some (some v) := fun j v e => by
        rw [← hw8] at e
        exact (wipe_some e).1
      have hk9 : ∀ (j : Nat) v, (wipe σ (own.map (·.2)))[j]? = some (some v) → (wipe σ8 vs1)[j]? = some (some v) := fun j v e => by
        rw [← hw8] at e
        obtain ⟨e1, e2⟩ := wipe_some e
        rw [wipe_out fun z => e2 (hv j z)]
        exact e1
      cases b with
      | false =>
        simp only [Bool.false_eq_true, if_false] at q9 ⊢
        exact fin I9 hl8 hk8 q9
      | true =>
        simp only [if_true] at q9 ⊢
        refine thnF (pi1.run _ s9 σ8 H9 _ I9 q9) fun xv s10 hx => thnF hx fun itv s11 h11 => ?_
        obtain ⟨it1, fp1, tn1, J1, H11, e1, I11, T1, st11, f11, W1, ⟨m1, w1⟩, turn1⟩ := h11
        subst e1
        have stat1 : ∀ {H' : Hp}, (∀ b ∈ fp1, H' b = none) → ∀ b ∈ fp1, FpOk (X.blk s3 H3 scope ce fp) ([] ++ pinsAt fp s7.heap) H' b := fun hn b hb => ⟨hn b hb, (f11 b hb).2⟩
        have loop1 : codeAny (model X.prog X.w) X.A (.compLoop (DC2 kx vx tg iter tg1 iter1 ifs ifs1 scope pos) 1 (.ref it1) (.ref D) ce) (fun r s' => match r with
            | .ok _ => ∃ m, m < n ∧ IO m s'
            | .error _ => False) s11 := by
          let II : Nat → Shared → Prop := fun k s' => ∃ j H', Inv (X.blk s3 H3 scope ce fp) ([] ++ pinsAt fp s7.heap) (wipe σ8 vs1) H' s' ∧ tn1 j s'.heap ∧ (∀ b ∈ fp1, H' b = none) ∧ W1 j k H'
          refine dloop_in II ?_ m1 ⟨0, H11, I11.weak (wipe_length _ _) (fun j v e => (wipe_some e).1), st11, fun b hb => (f11 b hb).1, w1⟩
          rintro k s12 ⟨j, H12, I12, st12, n12, w12⟩
          rcases turn1 j k H12 w12 with ⟨stop1, nx1⟩ | ⟨go1, Nx1, hNx1, step1⟩
          · refine thnF (T1.done (X.blk s3 H3 scope ce fp) rfl rfl rfl hc j _ s12 (wipe σ8 vs1) H12 (fun _ _ => False) I12 (stat1 n12) st12 stop1) fun r s13 ⟨hr, I13⟩ => ?_
            subst hr
            exact fin I13 (hl8.trans (wipe_length σ8 vs1).symm) hk9 nx1
          · refine thnF (T1.item (X.blk s3 H3 scope ce fp) rfl rfl rfl hc j _ s12 (wipe σ8 vs1) H12 (fun _ _ => False) I12 (stat1 n12) st12 go1) fun r s13 ⟨u1, hr, h13⟩ => ?_
            subst hr
            refine thnF h13 fun _ s14 ⟨x1, H14, I14, r14, y14, st14, n14⟩ => ?_
            have I14' := I14.pinned (stat1 n14) (T1.obj _ _ st14)
            refine thnF (pg1.run _ s14 (wipe σ8 vs1) H14 x1 u1 _ I14' r14 (step1 x1 H14 y14)) fun _ s15 ⟨σ15, H15, I15, hw15, q15⟩ => ?_
            refine thnF (pt1.run _ s15 σ15 H15 _ I15 q15) fun b1 s16 ⟨H16, I16, q16⟩ => ?_
            have fin1 : ∀ {s' : Shared} {H' : Hp}, Inv (X.blk s3 H3 scope ce fp) (([] ++ pinsAt fp s7.heap) ++ pinsAt fp1 s14.heap) σ15 H' s' → Nx1 H' → ∃ m, m < k ∧ II m s' := fun {s' H'} I' nx => by
              obtain ⟨m', hm, w'⟩ := hNx1 H' nx
              have pin' : ∀ b ∈ fp1, ∀ o, s14.heap.get? b = some o → s'.heap.get? b = some o ∧ H' b = none := fun b hb o e =>
                let z := I'.pin (b, o) (List.mem_append_right _ (List.mem_append_right _ (mem_pinsAt hb e)))
                ⟨z.1, z.2.1⟩
              refine ⟨m', hm, j + 1, H', I'.unpinned.weak (by rw [← hw15, wipe_length]) (fun j v e => by rw [← hw15] at e; exact (wipe_some e).1), T1.keep _ _ _ st14 fun b hb o e => (pin' b hb o e).1, fun b hb => ?_, w'⟩
              obtain ⟨o, e, _⟩ := T1.obj _ _ st14 b hb
              exact (pin' b hb o e).2
            cases b1 with
            | false =>
              simp only [Bool.false_eq_true, if_false] at q16 ⊢
              exact fin1 I16 q16
            | true =>
              simp only [if_true] at q16 ⊢
              refine thnF (pk.run _ s16 σ15 H16 _ I16 q16) fun z s17 ⟨yk, H17, I17, r17, q17⟩ => ?_
              refine thnF (pe.run _ s17 σ15 H17 _ I17 q17) fun z2 s18 ⟨yv, H18, I18, r18, kvs, kk, ek, hD18, hz18, nx⟩ => ?_
              subst ek
              exact d_dictSet (X := X.blk s3 H3 scope ce fp) I18 hD18 hz18 r17 r18 fun s19 I19 => fin1 I19 nx
        exact dstart1 loop1 (T1.self X.A 0 _ _ _ st11 loop1)
  exact codeAny_compStart_dict loop (T.self X.A 0 _ _ _ st4 loop)
theorem pe_dc2 {kx vx tg iter tg1 iter1 : Expr} {ifs ifs1 : List Expr} {scope : Scope} {own : List (Str × Nat)} {vs1 : List Nat} {pos : Pos} {wi wi1 : TI} {g g1 : TG} {tt tt1 : TT} {tk tv : TE} (hc : X.calm = true) (hN : X.N.Nodup) (hi : PI X tg iter wi) (ok : BlkOk X.N X.env.scope scope own) (hv : ∀ i ∈ vs1, i ∈ own.map (·.2))
    (hg : InBk X scope fun Y => PG Y tg g) (ht : InBk X scope fun Y => PTs Y ifs tt) (hi1 : InBk X scope fun Y => PI Y tg1 iter1 wi1) (hg1 : InBk X scope fun Y => PG Y tg1 g1) (ht1 : InBk X scope fun Y => PTs Y ifs1 tt1) (hk : InBk X scope fun Y => PE Y kx tk) (he : InBk X scope fun Y => PE Y vx tv)
    (hs : ∀ x, foldedSetIterable iter X.env x = pure x := by intro _; rfl) (hs1 : ∀ env x, foldedSetIterable iter1 env x = pure x := by intro _ _; rfl) :
    PE X (DC2 kx vx tg iter tg1 iter1 ifs ifs1 scope pos) (tDc2 wi g tt wi1 g1 tt1 tk tv (own.map (·.2)) vs1) := by
  refine ⟨fun pins s σ H Q I h => ?_⟩
  rw [arm_eval_DictComp]
  refine dc2_core hc hN I hi ok hv hg ht hk he hs hi1 hg1 ht1 hs1 h fun D C s' m H' I' q hn f => ⟨m, hn, fun h'' sb => ?_⟩
  obtain ⟨f0, f1, f2, f3, f4, f5⟩ := f
  exact ⟨.ref D, H', I'.turned (t' := s'.toks) (fun b o hb e => (sb.2 b hb).trans e) f0 f1 f3 f4 f5, rfl, q⟩
end
end L2

namespace L2
open PySem PySem.Spec PyProof.Rows
/-! ### min of three ints -/
section
variable {X : Cx} {G : Gs}
def minI3 (i j k : Int) : Int := if k < (if j < i then j else i) then k else (if j < i then j else i)
def dMin3 : List D → M SV
  | [.int i, .int j, .int k] => mpure (.d (.int (minI3 i j k)))
  | _ => mstuck
theorem call_min3I (hc : X.calm = true) : CallR X (.builtin "min") (fun xs H Q => ∃ i j k, xs = [.int i, .int j, .int k] ∧ Q (.int (minI3 i j k)) H) := by
  intro pins s σ H xs us Q I r h
  obtain ⟨i, j, k, rfl, q⟩ := h
  refine call_min3Nu hc pins s σ H _ us Q I r ⟨_, _, _, .int (minI3 i j k), rfl, ?_, q⟩
  have e : ∀ a b : Int, nuLt (.int a) (.int b) = some (decide (a < b)) := fun _ _ => rfl
  have e2 : ∀ a b : Int, nuMin2 (.int a) (.int b) = some (.int (if b < a then b else a)) := fun a b => by
    unfold nuMin2
    rw [e]
    by_cases c : b < a
    · simp [c]
    · simp [c]
  unfold nuMin3
  rw [e2]
  exact e2 _ _
theorem fit_min3 : FitsC G (fun xs H Q => ∃ i j k, xs = [.int i, .int j, .int k] ∧ Q (.int (minI3 i j k)) H) dMin3 := by
  intro σ H L en vs ds Q R o q
  unfold dMin3 at q
  split at q
  · cases o with
    | cons h1 t =>
      cases t with
      | cons h2 t =>
        cases t with
        | cons h3 t =>
          cases t
          exact ⟨_, _, _, by rw [h1.int, h2.int, h3.int], q _ _ _ R (Same.refl _) (.int _)⟩
  · exact q.elim
end
/-! ### {k: v for i, x in enumerate(xs) for y in x} -/
open Classical in
noncomputable def dcGo2 (tg : Tg) (mc : M Bool) (tg1 : Tg) (vs1 : List Nat) (mi1 : M SV) (mc1 : M Bool) (mk mv : M SV) (en0 : En) : List D → List (Key × D) → Option (List (Key × D))
  | [], acc => some acc
  | d :: r, acc => match setTg tg d en0 with
    | none => none
    | some en1 => match mc en1 with
      | .ok false en2 => if en2 = en1 then dcGo2 tg mc tg1 vs1 mi1 mc1 mk mv en0 r acc else none
      | .ok true en2 => if en2 = en1 then (match mfrz mi1 en1 with
        | .ok (.d (.tuple ds1)) en3 => if en3 = en1 then (match dcGo tg1 mc1 mk mv (wipeEn en1 vs1) ds1 acc with
          | some acc2 => dcGo2 tg mc tg1 vs1 mi1 mc1 mk mv en0 r acc2
          | none => none) else none
        | _ => none) else none
      | _ => none
noncomputable def mDcGo2 (tg : Tg) (vs : List Nat) (mc : M Bool) (tg1 : Tg) (vs1 : List Nat) (mi1 : M SV) (mc1 : M Bool) (mk mv : M SV) (ds : List D) : M SV := fun en => if noOwn en vs then (match dcGo2 tg mc tg1 vs1 mi1 mc1 mk mv (wipeEn en vs) ds [] with
  | some acc => .ok (.own (.dct acc)) en
  | none => .stuck) else .stuck
section
variable {G : Gs} {J : It} {tg tg1 : Tg} {mc mc1 : M Bool} {mi1 mk mv : M SV} {ds : List D} {H : Hp} {L : List Addr} {σ : St} {en : En} {Q : VK} {vs vs1 : List Nat} {tt tt1 : TT} {tk tv : TE} {wi1 : TI}
/-- the inner loop: from what stands at its start to what stands behind it -/
theorem inner_runD {D0 : Addr} {σ2 : St} {en1 : En} {H0 : Hp} {L0 : List Addr} {ds1 : List D} {acc0 fin : List (Key × D)} {xs0 : List (Key × V)} {a : Addr} {Nx : Hp → Prop} (nB : D0 ∉ G.B) (R : RelS (G.blkD D0 xs0) L0 σ2 H0 en1) (ha : ∃ ys, SqT G.K (hid H0 L0) a ys ∧ DqAll G.K (hid H0 L0) ys ds1) (hacc : KD G.K (hid H0 L0) xs0 acc0)
    (ec : dcGo tg1 mc1 mk mv (wipeEn en1 vs1) ds1 acc0 = some fin) (hsub1 : ∀ j ∈ tg1.slots, j ∈ vs1)
    (ht1 : ∀ (D0 : Addr) (xs : List (Key × V)) (σ' : St) (H' : Hp) Q, tT (G.blkD D0 xs) mc1 σ' H' Q → tt1 σ' H' Q) (hk : ∀ (D0 : Addr) (xs : List (Key × V)) (σ' : St) (H' : Hp) Q, tE (G.blkD D0 xs) (mkeep mk) σ' H' Q → tk σ' H' Q) (hv : ∀ (D0 : Addr) (xs : List (Key × V)) (σ' : St) (H' : Hp) Q, tE (G.blkD D0 xs) (mkeep mv) σ' H' Q → tv σ' H' Q)
    (hN : ∀ (H' : Hp) (L' : List Addr) (xs : List (Key × V)), RelS (G.blkD D0 xs) L' (wipe σ2 vs1) H' (wipeEn en1 vs1) → Same (hid H0 L0) (hid H' L') → KD G.K (hid H' L') xs fin → Nx H') :
    ∃ W1 : Nat → Nat → Hp → Prop, (∃ m, W1 0 m H0) ∧ ∀ j k H, W1 j k H →
      ((Itt G.K a).stop j H ∧ Nx H) ∨ ((Itt G.K a).go j H ∧ ∃ Nx1 : Hp → Prop, (∀ H', Nx1 H' → ∃ k', k' < k ∧ W1 (j + 1) k' H') ∧ ∀ x H', (Itt G.K a).yld j H x H' → gOf G.K tg1 x (wipe σ2 vs1) H' fun σ3 H5 => wipe σ3 vs1 = wipe σ2 vs1 ∧ tt1 σ3 H5 fun b H6 =>
        if b = true then tk σ3 H6 fun y H7 => tv σ3 H7 fun z H8 => ∃ kvs k, y = kV k ∧ H8 D0 = some (.dK kvs) ∧ kvs.length < sizeLine ∧ Nx1 (upd H8 D0 (.dK (putK kvs k z))) else Nx1 H6) := by
  obtain ⟨ys, hys, hds⟩ := ha
  let Inv : Nat → Nat → Hp → Prop := fun i m H' => i + m = ds1.length ∧ ∃ (L' : List Addr) (acc : List (Key × D)) (xs : List (Key × V)), RelS (G.blkD D0 xs) L' (wipe σ2 vs1) H' (wipeEn en1 vs1) ∧ Same (hid H0 L0) (hid H' L') ∧ KD G.K (hid H' L') xs acc ∧
    dcGo tg1 mc1 mk mv (wipeEn en1 vs1) (ds1.drop i) acc = some fin
  refine ⟨Inv, ⟨ds1.length, by omega, L0, acc0, xs0, R.wipe vs1, Same.refl _, hacc, ec⟩, ?_⟩
  rintro i m H1 ⟨hm, L1, acc, xs, R1, s1, hacc, e1⟩
  have hD : H1 D0 = some (.dK xs) := (R1.base D0 List.mem_cons_self).2.1.trans upd_same
  have mD : D0 ∈ L1 := (R1.base D0 List.mem_cons_self).1
  have hok : ∃ ys, SqT G.K H1 a ys ∧ DqAll G.K (hid H1 L1) ys ds1 := ⟨ys, sqT_mono hid_same (sqT_mono s1 hys), DqAll.mono s1 _ hds⟩
  by_cases hi : i < ds1.length
  · obtain ⟨d, hd⟩ : ∃ d, ds1[i]? = some d := ⟨ds1[i], List.getElem?_eq_getElem hi⟩
    have hdrop : ds1.drop i = d :: ds1.drop (i + 1) := by
      rw [List.drop_eq_getElem_cons hi]
      rw [List.getElem?_eq_getElem hi] at hd
      cases hd
      rfl
    rw [hdrop] at e1
    unfold dcGo at e1
    refine .inr ⟨walks_tup.go i H1 L1 hok hi, fun H' => ∃ (L' : List Addr) (acc : List (Key × D)) (xs : List (Key × V)), RelS (G.blkD D0 xs) L' (wipe σ2 vs1) H' (wipeEn en1 vs1) ∧ Same (hid H0 L0) (hid H' L') ∧ KD G.K (hid H' L') xs acc ∧
      dcGo tg1 mc1 mk mv (wipeEn en1 vs1) (ds1.drop (i + 1)) acc = some fin, fun H' n => ⟨m - 1, by omega, by omega, n⟩, fun x H2 hy => ?_⟩
    obtain ⟨s2, hx⟩ := walks_tup.yld i H1 L1 x H2 d hok hd hy R1.own
    have R2 := R1.grow s2
    cases e2 : setTg tg1 d (wipeEn en1 vs1) with
    | none => rw [e2] at e1; cases e1
    | some en3 =>
      rw [e2] at e1
      dsimp only at e1
      obtain ⟨hl1, ho1⟩ := setTg_out e2
      refine g_run (G := G.blkD D0 xs) R2 hx e2 fun σ3 R3 k3 => ?_
      have hwσ : wipe σ3 vs1 = wipe σ2 vs1 := by
        have := wipe_same (σ := wipe σ2 vs1) (σ' := σ3) (vs := vs1) (by rw [R2.len, R3.len, hl1]) fun j hj => k3 j fun z => hj (hsub1 j z)
        rw [this]
        exact wipe_same (by rw [wipe_length]) fun j hj => wipe_keeps σ2 vs1 j hj
      have hwe : wipeEn en3 vs1 = wipeEn en1 vs1 := by
        rw [wipeEn_same (en := wipeEn en1 vs1) (en' := en3) hl1.symm fun j hj => ho1 j fun z => hj (hsub1 j z)]
        exact wipeEn_same (by rw [wipeEn_len]) fun j hj => wipeEn_out en1 hj
      have back : ∀ {xs' : List (Key × V)} {L' : List Addr} {H' : Hp}, RelS (G.blkD D0 xs') L' σ3 H' en3 → RelS (G.blkD D0 xs') L' (wipe σ2 vs1) H' (wipeEn en1 vs1) := fun r => by
        have z := r.wipe vs1
        rw [hwσ, hwe] at z
        exact z
      refine ⟨hwσ, ht1 D0 xs σ3 H2 _ ⟨en3, L1, R3, ?_⟩⟩
      have s12 : Same (hid H1 L1) (hid H2 L1) := hid_mono s2
      cases e3 : mc1 en3 with
      | stuck => rw [e3] at e1; cases e1
      | exc _ _ => rw [e3] at e1; cases e1
      | ok b en2 =>
        rw [e3] at e1
        intro H3 L3 R4 s3
        cases b with
        | false =>
          dsimp only at e1
          split at e1
          · rename_i he2
            subst he2
            rw [if_neg Bool.false_ne_true]
            exact ⟨L3, acc, xs, back R4, s1.trans (s12.trans s3), hacc.mono (s12.trans s3), e1⟩
          · cases e1
        | true =>
          dsimp only at e1
          split at e1
          · rename_i he2
            subst he2
            rw [if_pos rfl]
            refine hk D0 xs σ3 H3 _ ⟨en2, L3, R4, ?_⟩
            cases e4 : mkeep mk en2 with
            | stuck => rw [e4] at e1; cases e1
            | exc _ _ => rw [e4] at e1; cases e1
            | ok sv en4 =>
              rw [e4] at e1
              cases sv with
              | own _ => cases e1
              | bor _ => cases e1
              | d y =>
                dsimp only at e1
                split at e1
                · rename_i he3
                  subst he3
                  intro u H4 L4 R5 s4 hu
                  refine hv D0 xs σ3 H4 _ ⟨en4, L4, R5, ?_⟩
                  cases e5 : mkeep mv en4 with
                  | stuck => rw [e5] at e1; cases e1
                  | exc _ _ => rw [e5] at e1; cases e1
                  | ok sv en5 =>
                    rw [e5] at e1
                    cases sv with
                    | own _ => cases e1
                    | bor _ => cases e1
                    | d z =>
                      dsimp only at e1
                      split at e1
                      · rename_i kk ek
                        split at e1
                        · rename_i hc
                          obtain ⟨he4, hlen⟩ := hc
                          subst he4
                          intro v H5 L5 R6 s5 hv5
                          have hD5 : H5 D0 = some (.dK xs) := (R6.base D0 List.mem_cons_self).2.1.trans upd_same
                          have mD5 : D0 ∈ L5 := (R6.base D0 List.mem_cons_self).1
                          have st : Same (hid H1 L1) (hid H5 L5) := s12.trans (s3.trans (s4.trans s5))
                          obtain ⟨rfl, _⟩ := key_of_D (L := L4) (.inl hu) ek
                          refine ⟨xs, kk, rfl, hD5, by rw [hacc.length]; exact hlen, L5, putD acc kk z, putK xs kk v, (back R6).pushBlkD nB, by rw [hid_upd mD5]; exact s1.trans st, ?_, e1⟩
                          rw [hid_upd mD5]
                          exact (hacc.mono st).put hv5
                        · cases e1
                      · cases e1
                · cases e1
          · cases e1
  · have hi' : i = ds1.length := by omega
    have hdrop : ds1.drop i = [] := List.drop_eq_nil_of_le (by omega)
    rw [hdrop] at e1
    cases e1
    exact .inl ⟨walks_tup.stop i H1 L1 hok hi', hN H1 L1 xs R1 s1 hacc⟩
theorem dc2_run {ok : Hp → List Addr → Prop} (W : Walks G.K J ok ds) (R : RelS G L σ H en) (q : PostE G σ H L (mDcGo2 tg vs mc tg1 vs1 mi1 mc1 mk mv ds en) Q) (hsub : ∀ j ∈ tg.slots, j ∈ vs) (hsub1 : ∀ j ∈ tg1.slots, j ∈ vs1) (hvs : ∀ j ∈ vs1, j ∈ vs)
    (k : ∀ (G' : Gs) H' L', G'.K = G.K → RelS G' L' (wipe σ vs) H' (wipeEn en vs) → Same (hid H L) (hid H' L') → ok H' L')
    (ht : ∀ (D0 : Addr) (xs : List (Key × V)) (σ' : St) (H' : Hp) Q, tT (G.blkD D0 xs) mc σ' H' Q → tt σ' H' Q) (hi1 : ∀ (D0 : Addr) (xs : List (Key × V)) (σ' : St) (H' : Hp) Q, iAny G.K (tE (G.blkD D0 xs) (mfrz mi1)) σ' H' Q → wi1 σ' H' Q)
    (ht1 : ∀ (D0 : Addr) (xs : List (Key × V)) (σ' : St) (H' : Hp) Q, tT (G.blkD D0 xs) mc1 σ' H' Q → tt1 σ' H' Q) (hk : ∀ (D0 : Addr) (xs : List (Key × V)) (σ' : St) (H' : Hp) Q, tE (G.blkD D0 xs) (mkeep mk) σ' H' Q → tk σ' H' Q) (hv : ∀ (D0 : Addr) (xs : List (Key × V)) (σ' : St) (H' : Hp) Q, tE (G.blkD D0 xs) (mkeep mv) σ' H' Q → tv σ' H' Q) :
    ∀ D0, H D0 = none → ∃ W : Nat → Nat → Hp → Prop, (∃ m, W 0 m (upd H D0 (.dK []))) ∧ ∀ i m H, W i m H →
      (J.stop i H ∧ Q (.ref D0) H) ∨ (J.go i H ∧ ∃ Nx : Hp → Prop, (∀ H', Nx H' → ∃ m', m' < m ∧ W (i + 1) m' H') ∧ ∀ x H', J.yld i H x H' → gOf G.K tg x (wipe σ vs) H' fun σ2 H2 => wipe σ2 vs = wipe σ vs ∧ tt σ2 H2 fun b H3 =>
        if b = true then wi1 σ2 H3 fun J1 H4 => ∃ W1 : Nat → Nat → Hp → Prop, (∃ m, W1 0 m H4) ∧ ∀ j k H, W1 j k H →
          (J1.stop j H ∧ Nx H) ∨ (J1.go j H ∧ ∃ Nx1 : Hp → Prop, (∀ H', Nx1 H' → ∃ k', k' < k ∧ W1 (j + 1) k' H') ∧ ∀ x H', J1.yld j H x H' → gOf G.K tg1 x (wipe σ2 vs1) H' fun σ3 H5 => wipe σ3 vs1 = wipe σ2 vs1 ∧ tt1 σ3 H5 fun b H6 =>
            if b = true then tk σ3 H6 fun y H7 => tv σ3 H7 fun z H8 => ∃ kvs k, y = kV k ∧ H8 D0 = some (.dK kvs) ∧ kvs.length < sizeLine ∧ Nx1 (upd H8 D0 (.dK (putK kvs k z))) else Nx1 H6)
        else Nx H3) := by
  intro D0 nD
  have nB : D0 ∉ G.B := R.fresh_base nD
  have hw := (R.wipe vs)
  unfold mDcGo2 at q
  split at q
  · rename_i hno
    cases ec : dcGo2 tg mc tg1 vs1 mi1 mc1 mk mv (wipeEn en vs) ds [] with
    | none => rw [ec] at q; exact q.elim
    | some fin =>
      rw [ec] at q
      dsimp only at q
      let Inv : Nat → Nat → Hp → Prop := fun i m H' => i + m = ds.length ∧ ∃ (L' : List Addr) (acc : List (Key × D)) (xs : List (Key × V)), RelS (G.blkD D0 xs) L' (wipe σ vs) H' (wipeEn en vs) ∧ Same (hid H L) (hid H' L') ∧ KD G.K (hid H' L') xs acc ∧
        dcGo2 tg mc tg1 vs1 mi1 mc1 mk mv (wipeEn en vs) (ds.drop i) acc = some fin
      refine ⟨Inv, ⟨ds.length, by omega, D0 :: L, [], [], hw.toBlkD nD, hid_new nD, .nil, ec⟩, ?_⟩
      rintro i m H1 ⟨hm, L1, acc, xs, R1, s1, hacc, e1⟩
      have hD : H1 D0 = some (.dK xs) := (R1.base D0 List.mem_cons_self).2.1.trans upd_same
      have mD : D0 ∈ L1 := (R1.base D0 List.mem_cons_self).1
      have hok := k (G.blkD D0 xs) H1 L1 rfl R1 s1
      by_cases hi : i < ds.length
      · obtain ⟨d, hd⟩ : ∃ d, ds[i]? = some d := ⟨ds[i], List.getElem?_eq_getElem hi⟩
        have hdrop : ds.drop i = d :: ds.drop (i + 1) := by
          rw [List.drop_eq_getElem_cons hi]
          rw [List.getElem?_eq_getElem hi] at hd
          cases hd
          rfl
        rw [hdrop] at e1
        unfold dcGo2 at e1
        refine .inr ⟨W.go i H1 L1 hok hi, fun H' => ∃ (L' : List Addr) (acc : List (Key × D)) (xs : List (Key × V)), RelS (G.blkD D0 xs) L' (wipe σ vs) H' (wipeEn en vs) ∧ Same (hid H L) (hid H' L') ∧ KD G.K (hid H' L') xs acc ∧
          dcGo2 tg mc tg1 vs1 mi1 mc1 mk mv (wipeEn en vs) (ds.drop (i + 1)) acc = some fin, fun H' n => ⟨m - 1, by omega, by omega, n⟩, fun x H2 hy => ?_⟩
        obtain ⟨s2, hx⟩ := W.yld i H1 L1 x H2 d hok hd hy R1.own
        have R2 := R1.grow s2
        cases e2 : setTg tg d (wipeEn en vs) with
        | none => rw [e2] at e1; cases e1
        | some en1 =>
          rw [e2] at e1
          dsimp only at e1
          obtain ⟨hl1, ho1⟩ := setTg_out e2
          refine g_run (G := G.blkD D0 xs) R2 hx e2 fun σ2 R3 k3 => ?_
          have hwσ : wipe σ2 vs = wipe σ vs := by
            have := wipe_same (σ := wipe σ vs) (σ' := σ2) (vs := vs) (by rw [R2.len, R3.len, hl1]) fun j hj => k3 j fun z => hj (hsub j z)
            rw [this]
            exact wipe_same (by rw [wipe_length]) fun j hj => wipe_keeps σ vs j hj
          have hwe : wipeEn en1 vs = wipeEn en vs := by
            rw [wipeEn_same (en := wipeEn en vs) (en' := en1) hl1.symm fun j hj => ho1 j fun z => hj (hsub j z)]
            exact wipeEn_same (by rw [wipeEn_len]) fun j hj => wipeEn_out en hj
          have back : ∀ {xs' : List (Key × V)} {L' : List Addr} {H' : Hp}, RelS (G.blkD D0 xs') L' σ2 H' en1 → RelS (G.blkD D0 xs') L' (wipe σ vs) H' (wipeEn en vs) := fun r => by
            have z := r.wipe vs
            rw [hwσ, hwe] at z
            exact z
          have back1 : ∀ {xs' : List (Key × V)} {L' : List Addr} {H' : Hp}, RelS (G.blkD D0 xs') L' (wipe σ2 vs1) H' (wipeEn en1 vs1) → RelS (G.blkD D0 xs') L' (wipe σ vs) H' (wipeEn en vs) := fun r => by
            have z := r.wipe vs
            rw [wipe_twice hvs, wipeEn_twice hvs, hwσ, hwe] at z
            exact z
          refine ⟨hwσ, ht D0 xs σ2 H2 _ ⟨en1, L1, R3, ?_⟩⟩
          have s12 : Same (hid H1 L1) (hid H2 L1) := hid_mono s2
          cases e3 : mc en1 with
          | stuck => rw [e3] at e1; cases e1
          | exc _ _ => rw [e3] at e1; cases e1
          | ok b en2 =>
            rw [e3] at e1
            intro H3 L3 R4 s3
            cases b with
            | false =>
              dsimp only at e1
              split at e1
              · rename_i he2
                subst he2
                rw [if_neg Bool.false_ne_true]
                exact ⟨L3, acc, xs, back R4, s1.trans (s12.trans s3), hacc.mono (s12.trans s3), e1⟩
              · cases e1
            | true =>
              dsimp only at e1
              split at e1
              · rename_i he2
                subst he2
                rw [if_pos rfl]
                refine hi1 D0 xs σ2 H3 _ ⟨en2, L3, R4, ?_⟩
                cases e4 : mfrz mi1 en2 with
                | stuck => rw [e4] at e1; cases e1
                | exc _ _ => rw [e4] at e1; cases e1
                | ok sv en3 =>
                  rw [e4] at e1
                  cases sv with
                  | own _ => cases e1
                  | bor _ => cases e1
                  | d y =>
                    cases y with
                    | tuple ds1 =>
                      dsimp only at e1
                      split at e1
                      · rename_i he3
                        subst he3
                        cases e5 : dcGo tg1 mc1 mk mv (wipeEn en3 vs1) ds1 acc with
                        | none => rw [e5] at e1; cases e1
                        | some acc2 =>
                          rw [e5] at e1
                          dsimp only at e1
                          intro v H4 L4 R5 s4 hv
                          have st : Same (hid H1 L1) (hid H4 L4) := s12.trans (s3.trans s4)
                          cases hv with
                          | tup hs ha =>
                            refine .inr (.inl ⟨_, _, rfl, sqT_mono hid_same hs, ?_⟩)
                            exact inner_runD nB R5 ⟨_, hs, ha⟩ (hacc.mono st) e5 hsub1 ht1 hk hv fun H' L' xs' R6 s6 h6 => ⟨L', acc2, xs', back1 R6, s1.trans (st.trans s6), h6, e1⟩
                      · cases e1
                    | _ => cases e1
              · cases e1
      · have hi' : i = ds.length := by omega
        have hdrop : ds.drop i = [] := List.drop_eq_nil_of_le (by omega)
        rw [hdrop] at e1
        cases e1
        refine .inl ⟨W.stop i H1 L1 hok hi', ?_⟩
        have hbase := (R1.base D0 List.mem_cons_self).2.2
        have R2 : RelS G L1 (wipe σ vs) H1 (wipeEn en vs) := R1.ofBlkD nB
        have nown : ∀ (j : Nat) (c : OB), en[j]? = some (some (SV.own c)) → j ∉ vs := fun j c ej mj => by
          have z := List.all_eq_true.mp hno j mj
          simp only [ej] at z
          cases z
        have R3 : RelS G L1 σ H1 en := by
          refine ⟨R2.own, R2.same, R.len, fun j sv ej => ?_, R.apart, fun a ma => ?_⟩
          · by_cases mj : j ∈ vs
            · have z := R.slot j sv ej
              cases sv with
              | d dd => obtain ⟨v, q1, q2⟩ := z; exact ⟨v, q1, Dq.mono s1 _ q2⟩
              | own c => exact absurd mj (nown j c ej)
              | bor _ => exact z
            · have z := R2.slot j sv (by rw [wipeEn_out _ mj]; exact ej)
              rw [wipe_keeps σ vs j mj] at z
              exact z
          · obtain ⟨h1, h2, h3⟩ := R2.base a ma
            refine ⟨h1, h2, fun j c ej => ?_⟩
            have mj := nown j c ej
            have z := h3 j c (by rw [wipeEn_out _ mj]; exact ej)
            rw [wipe_keeps σ vs j mj] at z
            exact z
        refine q _ H1 L1 R3 s1 ⟨D0, .dK xs, rfl, mD, nB, hD, hacc, fun j c ej => ?_⟩
        have mj := nown j c ej
        have z := hbase j c (by rw [wipeEn_out _ mj]; exact ej)
        rw [wipe_keeps σ vs j mj] at z
        exact z
  · exact q.elim
end
noncomputable def mDc2E (tg : Tg) (vs : List Nat) (mi : M SV) (mc : M Bool) (tg1 : Tg) (vs1 : List Nat) (mi1 : M SV) (mc1 : M Bool) (mk mv : M SV) : M SV := mbind (mfrz mi) fun sv en => match sv with
  | .d (.tuple ds) => mDcGo2 tg vs mc tg1 vs1 mi1 mc1 mk mv (enumD ds) en
  | _ => .stuck
section
variable {X : Cx} {G : Gs} {kx vx t t1 iter iter1 : Expr} {ifs ifs1 : List Expr} {scope : Scope} {own : List (Str × Nat)} {vs1 : List Nat} {mi mi1 mk mv : M SV} {mc mc1 : M Bool} {tg tg1 : Tg} {pos : Pos} {tt tt1 : TT} {tk tv : TE} {wi1 : TI}
theorem dc2E_imp (hsub : ∀ j ∈ tg.slots, j ∈ own.map (·.2)) (hsub1 : ∀ j ∈ tg1.slots, j ∈ vs1) (hvs : ∀ j ∈ vs1, j ∈ own.map (·.2)) (ht : ∀ (D0 : Addr) (xs : List (Key × V)) (σ' : St) (H' : Hp) Q, tT (G.blkD D0 xs) mc σ' H' Q → tt σ' H' Q) (hi1 : ∀ (D0 : Addr) (xs : List (Key × V)) (σ' : St) (H' : Hp) Q, iAny G.K (tE (G.blkD D0 xs) (mfrz mi1)) σ' H' Q → wi1 σ' H' Q)
    (ht1 : ∀ (D0 : Addr) (xs : List (Key × V)) (σ' : St) (H' : Hp) Q, tT (G.blkD D0 xs) mc1 σ' H' Q → tt1 σ' H' Q) (hk : ∀ (D0 : Addr) (xs : List (Key × V)) (σ' : St) (H' : Hp) Q, tE (G.blkD D0 xs) (mkeep mk) σ' H' Q → tk σ' H' Q) (hv : ∀ (D0 : Addr) (xs : List (Key × V)) (σ' : St) (H' : Hp) Q, tE (G.blkD D0 xs) (mkeep mv) σ' H' Q → tv σ' H' Q)
    (σ : St) (H : Hp) (Q : VK) (h : tE G (mDc2E tg (own.map (·.2)) mi mc tg1 vs1 mi1 mc1 mk mv) σ H Q) : tDc2 (iEnumT G.K (tE G (mfrz mi))) (gOf G.K tg) tt wi1 (gOf G.K tg1) tt1 tk tv (own.map (·.2)) vs1 σ H Q := by
  obtain ⟨en, L, R, q⟩ := h
  refine (seqE R q).mono fun v H1 ⟨en1, L1, sv, R1, s1, r1, q1⟩ => ?_
  cases sv with
  | own _ => exact q1.elim
  | bor i => exact q1.elim
  | d d =>
    cases d with
    | tuple ds =>
      cases r1 with
      | tup hs ha => exact ⟨_, _, rfl, sqT_mono hid_same hs, dc2_run walks_enum R1 q1 hsub hsub1 hvs (fun G' H' L' hK R' s' => ⟨_, sqT_mono s' hs, DqAll.mono s' _ ha⟩) ht hi1 ht1 hk hv⟩
    | _ => exact q1.elim
abbrev InD (X : Cx) (scope : Scope) (P : Cx → Addr → List (Key × V) → Prop) : Prop := ∀ (s : Shared) (H : Hp) (C : Addr) (cl : List (Str × Addr)) (fp : List Addr) (D0 : Addr) (xs : List (Key × V)), P (X.blk s H scope (compEnvC scope cl C X.env) fp) D0 xs
structure InBlkD2 (X : Cx) (G : Gs) (scope : Scope) (t kx vx : Expr) (ifs : List Expr) (t1 iter1 : Expr) (ifs1 : List Expr) (tg : Tg) (mc : M Bool) (tg1 : Tg) (mi1 : M SV) (mc1 : M Bool) (mk mv : M SV) : Prop where
  g : InBk X scope fun Y => PG Y t (gOf X.K tg)
  c : InD X scope fun Y D0 xs => PTs Y ifs (tT (G.blkD D0 xs) mc)
  g1 : InBk X scope fun Y => PG Y t1 (gOf X.K tg1)
  i1 : InD X scope fun Y D0 xs => PE Y iter1 (tE (G.blkD D0 xs) mi1)
  c1 : InD X scope fun Y D0 xs => PTs Y ifs1 (tT (G.blkD D0 xs) mc1)
  k : InD X scope fun Y D0 xs => PE Y kx (tE (G.blkD D0 xs) mk)
  v : InD X scope fun Y D0 xs => PE Y vx (tE (G.blkD D0 xs) mv)
abbrev exTD (G : Gs) (mc : M Bool) : TT := fun σ H Q => ∃ p : Addr × List (Key × V), tT (G.blkD p.1 p.2) mc σ H Q
abbrev exED (G : Gs) (me : M SV) : TE := fun σ H Q => ∃ p : Addr × List (Key × V), tE (G.blkD p.1 p.2) (mkeep me) σ H Q
abbrev exID (G : Gs) (mi1 : M SV) : TI := fun σ H R => ∃ p : Addr × List (Key × V), iAny G.K (tE (G.blkD p.1 p.2) (mfrz mi1)) σ H R
theorem InBlkD2.pi (B : InBlkD2 X G scope t kx vx ifs t1 iter1 ifs1 tg mc tg1 mi1 mc1 mk mv) (hK : X.K = G.K) : InBk X scope fun Y => PI Y t1 iter1 (exID G mi1) := fun s H C cl fp =>
  PI.ex fun p => by
    have z : PI (X.blk s H scope (compEnvC scope cl C X.env) fp) t1 iter1 (iAny X.K (tE (G.blkD p.1 p.2) (mfrz mi1))) := pi_any (je_frz (B.i1 s H C cl fp p.1 p.2))
    rw [hK] at z
    exact z
theorem je_dc2E {elts : List Expr} {kk : Nat} {tpos p pos' : Pos} (hc : X.calm = true) (hN : X.N.Nodup) (hK : X.K = G.K) (hgl : Gl X "enumerate") (hm : X.mg "enumerate" = none) (hi : PE X iter (tE G mi)) (ok : BlkOk X.N X.env.scope scope own) (hvs : ∀ j ∈ vs1, j ∈ own.map (·.2))
    (B : InBlkD2 X G scope (.Tuple elts kk tpos) kx vx ifs t1 iter1 ifs1 tg mc tg1 mi1 mc1 mk mv) (hsub : ∀ j ∈ tg.slots, j ∈ own.map (·.2)) (hsub1 : ∀ j ∈ tg1.slots, j ∈ vs1)
    (hse : starEach [iter] X.env = (false, eval iter X.env) :: starEach [] X.env := by rfl) (hs : ∀ x, foldedSetIterable (.Call (.Name "enumerate" p) [iter] [] pos') X.env x = pure x := by intro _; rfl) (hs1 : ∀ env x, foldedSetIterable iter1 env x = pure x := by intro _ _; rfl) :
    PE X (.DictComp kx vx [⟨.Tuple elts kk tpos, .Call (.Name "enumerate" p) [iter] [] pos', ifs, 0⟩, ⟨t1, iter1, ifs1, 0⟩] scope pos) (tE G (mDc2E tg (own.map (·.2)) mi mc tg1 vs1 mi1 mc1 mk mv)) :=
  (pe_dc2 (tt := exTD G mc) (tt1 := exTD G mc1) (tk := exED G mk) (tv := exED G mv) (wi1 := exID G mi1) hc hN (pi_enumT hgl hm (je_frz hi) hse) ok hvs B.g (fun s H C cl fp => PTs.ex fun p => B.c s H C cl fp p.1 p.2) (B.pi hK) B.g1 (fun s H C cl fp => PTs.ex fun p => B.c1 s H C cl fp p.1 p.2) (fun s H C cl fp => PE.ex fun p => je_keep (B.k s H C cl fp p.1 p.2)) (fun s H C cl fp => PE.ex fun p => je_keep (B.v s H C cl fp p.1 p.2)) hs hs1).imp fun σ H Q h => by
    rw [hK]
    exact dc2E_imp hsub hsub1 hvs (fun D0 xs _ _ _ q => ⟨(D0, xs), q⟩) (fun D0 xs _ _ _ q => ⟨(D0, xs), q⟩) (fun D0 xs _ _ _ q => ⟨(D0, xs), q⟩) (fun D0 xs _ _ _ q => ⟨(D0, xs), q⟩) (fun D0 xs _ _ _ q => ⟨(D0, xs), q⟩) σ H Q h
end
end L2

namespace L2
open PySem PySem.Spec PyProof.Rows
/-! ### the mirror's steps as rewriting -/
variable {α β : Type} {en : En}
@[simp] theorem s_pure (a : α) : mpure a en = .ok a en := rfl
@[simp] theorem s_stuck : (mstuck : M α) en = .stuck := rfl
@[simp] theorem s_bind (m : M α) (f : α → M β) : mbind m f en = match m en with
  | .ok a e => f a e
  | .exc x e => .exc x e
  | .stuck => .stuck := rfl
@[simp] theorem s_var (i : Nat) : mVar i en = match en[i]? with
  | some (some (.d d)) => .ok (.d d) en
  | some (some (.own _)) => .ok (.bor i) en
  | _ => .stuck := rfl
@[simp] theorem s_c (d : D) : mC d en = .ok (.d d) en := rfl
@[simp] theorem s_frz (m : M SV) : mfrz m en = match m en with
  | .ok (.own (.lst ds)) e => .ok (.d (.list ds)) e
  | .ok (.own (.dct _)) _ => .stuck
  | .ok (.d d) e => .ok (.d d) e
  | .ok (.bor i) e => .ok (.bor i) e
  | .exc x e => .exc x e
  | .stuck => .stuck := by
  unfold mfrz
  rw [s_bind]
  cases m en with
  | ok sv e => cases sv with
    | d _ => rfl
    | bor _ => rfl
    | own o => cases o <;> rfl
  | exc x e => rfl
  | stuck => rfl
@[simp] theorem s_keep (m : M SV) : mkeep m en = match m en with
  | .ok (.own (.lst ds)) e => .ok (.d (.list ds)) e
  | .ok (.own (.dct _)) _ => .stuck
  | .ok (.d d) e => .ok (.d d) e
  | .ok (.bor i) e => (match e[i]? with
    | some (some (.own (.lst ds))) => .ok (.d (.list ds)) (e.set i (some (.d (.list ds))))
    | _ => .stuck)
  | .exc x e => .exc x e
  | .stuck => .stuck := by
  unfold mkeep
  rw [s_bind, s_frz]
  cases h : m en with
  | ok sv e =>
    cases sv with
    | d _ => rfl
    | bor _ => rfl
    | own o => cases o <;> rfl
  | exc x e => rfl
  | stuck => rfl
@[simp] theorem s_look_d (d : D) : look en (.d d) = some d := rfl
@[simp] theorem s_look_bor (i : Nat) : look en (.bor i) = match en[i]? with
  | some (some (.own (.lst ds))) => some (.list ds)
  | some (some (.own (.dct kvs))) => some (dctD kvs)
  | _ => none := rfl
@[simp] theorem s_lookA_d (d : D) : lookA en (.d d) = some d := rfl
@[simp] theorem s_lookA_bor (i : Nat) : lookA en (.bor i) = match en[i]? with
  | some (some (.own (.lst ds))) => some (.list ds)
  | some (some (.own (.dct kds))) => if (kds.all fun p => isAt p.2) = true then some (dctD kds) else none
  | _ => none := rfl
@[simp] theorem s_lent_d (d : D) : lentOk en (.d d) = true := rfl
@[simp] theorem s_lent_bor (i : Nat) : lentOk en (.bor i) = match en[i]? with
  | some (some (.own _)) => true
  | _ => false := rfl
@[simp] theorem s_looks_nil : looks en [] = some [] := rfl
@[simp] theorem s_looks_cons (s : SV) (r : List SV) : looks en (s :: r) = match look en s, looks en r with
  | some d, some ds => some (d :: ds)
  | _, _ => none := rfl
@[simp] theorem s_looksA_nil : looksA en [] = some [] := rfl
@[simp] theorem s_looksA_cons (s : SV) (r : List SV) : looksA en (s :: r) = match lookA en s, looksA en r with
  | some d, some ds => some (d :: ds)
  | _, _ => none := rfl
@[simp] theorem s_op1 (f : D → M SV) (m : M SV) : mOp1 f m en = match mfrz m en with
  | .ok sv e => (match look e sv with
    | some x => f x e
    | none => .stuck)
  | .exc x e => .exc x e
  | .stuck => .stuck := by
  unfold mOp1
  rw [s_bind]
  cases mfrz m en with
  | ok a e => first | rfl | (dsimp only; cases look e a <;> rfl)
  | exc _ _ => rfl
  | stuck => rfl
@[simp] theorem s_op2 (f : D → D → M SV) (ma mb : M SV) : mOp2 f ma mb en = match mfrz ma en with
  | .ok a e => (match mfrz mb e with
    | .ok b e => (match look e a, look e b with
      | some x, some y => f x y e
      | _, _ => .stuck)
    | .exc x e => .exc x e
    | .stuck => .stuck)
  | .exc x e => .exc x e
  | .stuck => .stuck := by
  unfold mOp2
  rw [s_bind]
  cases mfrz ma en with
  | ok a e =>
    dsimp only
    rw [s_bind]
    cases mfrz mb e with
    | ok b e => first | rfl | (dsimp only; cases look e a <;> first | rfl | (cases look e b <;> rfl))
    | exc _ _ => rfl
    | stuck => rfl
  | exc _ _ => rfl
  | stuck => rfl
@[simp] theorem s_B (m : M SV) : mB m en = match m en with
  | .ok (.d (.bool b)) e => .ok b e
  | .exc x e => .exc x e
  | _ => .stuck := by
  unfold mB mbind
  cases h : m en with
  | ok sv e =>
    cases sv with
    | d d => cases d <;> rfl
    | bor _ => rfl
    | own o => rfl
  | exc x e => rfl
  | stuck => rfl
@[simp] theorem s_BV (t : M Bool) : mBV t en = match t en with
  | .ok b e => .ok (.d (.bool b)) e
  | .exc x e => .exc x e
  | .stuck => .stuck := by
  unfold mBV
  rw [s_bind]
  cases t en with
  | ok a e => rfl
  | exc _ _ => rfl
  | stuck => rfl
@[simp] theorem s_notT (t : M Bool) : mNotT t en = match t en with
  | .ok b e => .ok (!b) e
  | .exc x e => .exc x e
  | .stuck => .stuck := by
  unfold mNotT
  rw [s_bind]
  cases t en with
  | ok a e => rfl
  | exc _ _ => rfl
  | stuck => rfl
@[simp] theorem s_andT (t u : M Bool) : mAndT t u en = match t en with
  | .ok true e => u e
  | .ok false e => .ok false e
  | .exc x e => .exc x e
  | .stuck => .stuck := by
  unfold mAndT mbind
  cases h : t en with
  | ok b e => cases b <;> rfl
  | exc x e => rfl
  | stuck => rfl
@[simp] theorem s_orT (t u : M Bool) : mOrT t u en = match t en with
  | .ok false e => u e
  | .ok true e => .ok true e
  | .exc x e => .exc x e
  | .stuck => .stuck := by
  unfold mOrT mbind
  cases h : t en with
  | ok b e => cases b <;> rfl
  | exc x e => rfl
  | stuck => rfl
@[simp] theorem s_if (t : M Bool) (a b : M SV) : mIf t a b en = match t en with
  | .ok true e => a e
  | .ok false e => b e
  | .exc x e => .exc x e
  | .stuck => .stuck := by
  unfold mIf mbind
  cases h : t en with
  | ok b e => cases b <;> rfl
  | exc x e => rfl
  | stuck => rfl
@[simp] theorem s_ifS (t : M Bool) (a b : M Ct) : mIfS t a b en = match t en with
  | .ok true e => a e
  | .ok false e => b e
  | .exc x e => .exc x e
  | .stuck => .stuck := by
  unfold mIfS mbind
  cases h : t en with
  | ok b e => cases b <;> rfl
  | exc x e => rfl
  | stuck => rfl
@[simp] theorem s_nil : mNil en = .ok [] en := rfl
@[simp] theorem s_cons (m : M SV) (r : M (List SV)) : mCons m r en = match mfrz m en with
  | .ok a e => (match r e with
    | .ok as e => if lentOk e a then .ok (a :: as) e else .stuck
    | .exc x e => .exc x e
    | .stuck => .stuck)
  | .exc x e => .exc x e
  | .stuck => .stuck := by
  unfold mCons
  rw [s_bind]
  cases mfrz m en with
  | ok a e =>
    dsimp only
    rw [s_bind]
    cases r e with
    | ok b e => rfl
    | exc _ _ => rfl
    | stuck => rfl
  | exc _ _ => rfl
  | stuck => rfl
@[simp] theorem s_ret (m : M SV) : mRet m en = match m en with
  | .ok sv e => .ok (.rt sv) e
  | .exc x e => .exc x e
  | .stuck => .stuck := by
  unfold mRet
  rw [s_bind]
  cases m en with
  | ok a e => rfl
  | exc _ _ => rfl
  | stuck => rfl
@[simp] theorem s_nx : mNx en = .ok .nx en := rfl
@[simp] theorem s_seq (m n : M Ct) : mSeq m n en = match m en with
  | .ok .nx e => n e
  | .ok (.rt sv) e => .ok (.rt sv) e
  | .ok .bk e => .ok .bk e
  | .ok .ct e => .ok .ct e
  | .exc x e => .exc x e
  | .stuck => .stuck := by
  unfold mSeq mbind
  cases h : m en with
  | ok b e => cases b <;> rfl
  | exc x e => rfl
  | stuck => rfl
@[simp] theorem s_set (i : Nat) (m : M SV) : mSet i m en = match m en with
  | .ok (.d d) e => .ok .nx (e.set i (some (.d d)))
  | .ok (.own o) e => .ok .nx (e.set i (some (.own o)))
  | .ok (.bor _) _ => .stuck
  | .exc x e => .exc x e
  | .stuck => .stuck := by
  unfold mSet mbind
  cases h : m en with
  | ok b e => cases b <;> rfl
  | exc x e => rfl
  | stuck => rfl
@[simp] theorem s_callD (f : List D → M SV) (mas : M (List SV)) : mCallD f mas en = match mas en with
  | .ok svs e => (match looks e svs with
    | some ds => f ds e
    | none => .stuck)
  | .exc x e => .exc x e
  | .stuck => .stuck := by
  unfold mCallD
  rw [s_bind]
  cases mas en with
  | ok a e => first | rfl | (dsimp only; cases looks e a <;> rfl)
  | exc _ _ => rfl
  | stuck => rfl
@[simp] theorem s_call (F : Fm) (mas : M (List SV)) : mCall F mas en = match mas en with
  | .ok svs e => (match looksA e svs with
    | some ds => (match F ds with
      | .ok (.d d) _ => if flat d then .ok (.d d) e else .ok (.d d) (frzAll e)
      | .ok (.own o) _ => if flatO o then .ok (.own o) e else .ok (.own o) (frzAll e)
      | .ok (.bor _) _ => .stuck
      | .exc x _ => .exc x (frzAll e)
      | .stuck => .stuck)
    | none => .stuck)
  | .exc x e => .exc x e
  | .stuck => .stuck := by
  unfold mCall
  rw [s_bind]
  cases mas en with
  | ok a e => first | rfl | (dsimp only; cases looksA e a <;> first | rfl | (rename_i ds; dsimp only; cases F ds <;> first | rfl | (rename_i sv _; cases sv <;> rfl)))
  | exc _ _ => rfl
  | stuck => rfl
@[simp] theorem s_isi (T : TyN) (m : M SV) : mIsi T m en = match mfrz m en with
  | .ok sv e => (match look e sv with
    | some x => bvD (isiD T x) e
    | none => .stuck)
  | .exc x e => .exc x e
  | .stuck => .stuck := by
  unfold mIsi
  rw [s_op1]
@[simp] theorem s_bv (o : Option Bool) : bvD o en = match o with
  | some b => .ok (.d (.bool b)) en
  | none => .stuck := rfl
@[simp] theorem s_iv (o : Option D) : ivD o en = match o with
  | some d => .ok (.d d) en
  | none => .stuck := rfl
@[simp] theorem s_d1 (f : D → M SV) (x : D) : d1 f [x] = f x := rfl
@[simp] theorem s_dIs_b (a b : Bool) : dIs (.bool a) (.bool b) = mpure (.d (.bool (decide (a = b)))) := rfl
@[simp] theorem s_dNis_b (a b : Bool) : dNis (.bool a) (.bool b) = mpure (.d (.bool (!decide (a = b)))) := rfl
@[simp] theorem s_dLe_i (a b : Int) : dLe (.int a) (.int b) = mpure (.d (.bool (decide (a ≤ b)))) := rfl
@[simp] theorem s_dLt_i (a b : Int) : dLt (.int a) (.int b) = mpure (.d (.bool (decide (a < b)))) := rfl
@[simp] theorem s_dGt_i (a b : Int) : dGt (.int a) (.int b) = mpure (.d (.bool (decide (b < a)))) := rfl
@[simp] theorem s_dAdd_i (a b : Int) : dAdd (.int a) (.int b) = mpure (.d (.int (a + b))) := rfl
@[simp] theorem s_dInt_i (a : Int) : dInt (.int a) = mpure (.d (.int a)) := rfl
@[simp] theorem s_dInt_b (a : Bool) : dInt (.bool a) = mpure (.d (.int (if a then 1 else 0))) := rfl
@[simp] theorem s_dIx (x y : D) : dIx x y en = match ixD x y with
  | some d => .ok (.d d) en
  | none => .stuck := rfl
@[simp] theorem s_ix_t (ds : List D) (i : Int) : ixD (.tuple ds) (.int i) = atI ds i := rfl
@[simp] theorem s_ix_l (ds : List D) (i : Int) : ixD (.list ds) (.int i) = atI ds i := rfl
@[simp] theorem s_dEq (x y : D) : dEq x y en = match eqD x y with
  | some b => .ok (.d (.bool b)) en
  | none => .stuck := rfl
@[simp] theorem s_dNe (x y : D) : dNe x y en = match eqD x y with
  | some b => .ok (.d (.bool !b)) en
  | none => .stuck := by
  unfold dNe bvD
  cases eqD x y <;> rfl
@[simp] theorem s_eq_i (a b : Int) : eqD (.int a) (.int b) = some (decide (a = b)) := rfl
@[simp] theorem s_eq_s (a b : Str) : eqD (.str a) (.str b) = some (decide (a = b)) := rfl
@[simp] theorem s_eq_b (a b : Bool) : eqD (.bool a) (.bool b) = some (decide (a = b)) := rfl
@[simp] theorem s_len_t (ds : List D) : dLen (.tuple ds) = mpure (.d (.int ds.length)) := rfl
@[simp] theorem s_len_l (ds : List D) : dLen (.list ds) = mpure (.d (.int ds.length)) := rfl
@[simp] theorem s_len_scr (ns : List Int) : dLen (scrD ns) = mpure (.d (.int ns.length)) := by
  have h : (ns.map PyData.int).length = ns.length := List.length_map _
  show (fun en => Rs.ok (SV.d (.int ((ns.map PyData.int).length : Nat))) en) = _
  rw [h]
  rfl
@[simp] theorem s_chain (f g : D → D → M SV) (ma mb mc : M SV) : mChain f g ma mb mc en = match mfrz ma en with
  | .ok a e => (match mfrz mb e with
    | .ok b e => (match look e a, look e b with
      | some x, some y => (match f x y e with
        | .ok (.d (.bool true)) e => mOp1 (fun z => g y z) mc e
        | .ok (.d (.bool false)) e => .ok (.d (.bool false)) e
        | .exc x e => .exc x e
        | _ => .stuck)
      | _, _ => .stuck)
    | .exc x e => .exc x e
    | .stuck => .stuck)
  | .exc x e => .exc x e
  | .stuck => .stuck := by
  unfold mChain
  rw [s_bind]
  cases mfrz ma en with
  | ok a e =>
    dsimp only
    rw [s_bind]
    cases mfrz mb e with
    | ok b e =>
      dsimp only
      cases look e a with
      | none => rfl
      | some x =>
        cases look e b with
        | none => rfl
        | some y =>
          dsimp only
          rw [s_bind]
          cases f x y e with
          | ok r e =>
            cases r with
            | d d => cases d with
              | bool b => cases b <;> rfl
              | _ => rfl
            | own _ => rfl
            | bor _ => rfl
          | exc _ _ => rfl
          | stuck => rfl
    | exc _ _ => rfl
    | stuck => rfl
  | exc _ _ => rfl
  | stuck => rfl
theorem run_ok {n N : Nat} {body : M Ct} {ds : List D} {d : D} {e : En} (hl : ds.length = n) (h : body (ds.map (fun d => some (SV.d d)) ++ List.replicate (N - n) none) = .ok (.rt (.d d)) e) : runF n N body ds = .ok (.d d) [] := by
  unfold runF
  rw [if_pos hl, h]
theorem run_own {n N : Nat} {body : M Ct} {ds : List D} {o : OB} {e : En} (hl : ds.length = n) (h : body (ds.map (fun d => some (SV.d d)) ++ List.replicate (N - n) none) = .ok (.rt (.own o)) e) : runF n N body ds = .ok (.own o) [] := by
  unfold runF
  rw [if_pos hl, h]
theorem run_bor {n N : Nat} {body : M Ct} {ds : List D} {i : Nat} {o : OB} {e : En} (hl : ds.length = n) (h : body (ds.map (fun d => some (SV.d d)) ++ List.replicate (N - n) none) = .ok (.rt (.bor i)) e) (ho : e[i]? = some (some (.own o))) : runF n N body ds = .ok (.own o) [] := by
  unfold runF
  rw [if_pos hl, h]
  simp only [ho]
theorem run_exc {n N : Nat} {body : M Ct} {ds : List D} {x : Xc} {e : En} (hl : ds.length = n) (h : body (ds.map (fun d => some (SV.d d)) ++ List.replicate (N - n) none) = .exc x e) : runF n N body ds = .exc x [] := by
  unfold runF
  rw [if_pos hl, h]
end L2

namespace L2
open PySem PySem.Spec PyProof.Rows
/-! ### comprehensions and loops as maps and folds -/
theorem compGo_map {tg : Tg} {me : M SV} {en0 : En} {g : D → D} : ∀ (ds acc : List D), (∀ d ∈ ds, ∃ en1, setTg tg d en0 = some en1 ∧ mkeep me en1 = .ok (.d (g d)) en1) → acc.length + ds.length ≤ sizeLine → compGo tg mYes me en0 ds acc = some (acc ++ ds.map g)
  | [], acc, _, _ => by simp [compGo]
  | d :: r, acc, h, l => by
    obtain ⟨en1, h1, h2⟩ := h d List.mem_cons_self
    have l2 : acc.length < sizeLine := by simp at l; omega
    unfold compGo
    simp only [h1]
    have e : mYes en1 = .ok true en1 := rfl
    simp only [e, if_true, h2, true_and, l2]
    rw [compGo_map r _ (fun x m => h x (List.mem_cons_of_mem _ m)) (by simp at l ⊢; omega)]
    simp
theorem compGo_filter {tg : Tg} {mc : M Bool} {me : M SV} {en0 : En} {p : D → Bool} {g : D → D} : ∀ (ds acc : List D), (∀ d ∈ ds, ∃ en1, setTg tg d en0 = some en1 ∧ mc en1 = .ok (p d) en1 ∧ (p d = true → mkeep me en1 = .ok (.d (g d)) en1)) → acc.length + ds.length ≤ sizeLine → compGo tg mc me en0 ds acc = some (acc ++ (ds.filter p).map g)
  | [], acc, _, _ => by simp [compGo]
  | d :: r, acc, h, l => by
    obtain ⟨en1, h1, h2, h3⟩ := h d List.mem_cons_self
    have l2 : acc.length < sizeLine := by simp at l; omega
    unfold compGo
    simp only [h1]
    cases e : p d with
    | false =>
      simp only [h2, e, if_true]
      rw [compGo_filter r _ (fun x m => h x (List.mem_cons_of_mem _ m)) (by simp at l ⊢; omega)]
      simp [e]
    | true =>
      simp only [h2, e, if_true, h3 e, true_and, l2]
      rw [compGo_filter r _ (fun x m => h x (List.mem_cons_of_mem _ m)) (by simp at l ⊢; omega)]
      simp [e]
variable {en : En}
theorem comp_ok {tg : Tg} {vs : List Nat} {mc : M Bool} {me : M SV} {ds r : List D} (h : noOwn en vs = true) (e : compGo tg mc me (wipeEn en vs) ds [] = some r) : mComp tg vs mc me ds en = .ok (.own (.lst r)) en := by
  unfold mComp
  rw [if_pos h, e]
@[simp] theorem s_lc (tg : Tg) (vs : List Nat) (mi : M SV) (mc : M Bool) (me : M SV) : mLc tg vs mi mc me en = match mfrz mi en with
  | .ok (.d (.list ds)) e => mComp tg vs mc me ds e
  | .ok (.d (.tuple ds)) e => mComp tg vs mc me ds e
  | .ok (.d (.str z)) e => mComp tg vs mc me (signs z) e
  | .ok (.bor i) e => (match e[i]? with
    | some (some (.own (.lst ds))) => if vs.contains i then .stuck else mComp tg vs mc me ds e
    | _ => .stuck)
  | .exc x e => .exc x e
  | _ => .stuck := by
  unfold mLc
  rw [s_bind]
  cases mfrz mi en with
  | ok sv e => cases sv with
    | d d => cases d <;> rfl
    | bor _ => rfl
    | own _ => rfl
  | exc _ _ => rfl
  | stuck => rfl
@[simp] theorem s_tup (r : M (List SV)) : mTup r en = match r en with
  | .ok svs e => (match looks e svs with
    | some ds => if ds.length ≤ sizeLine ∧ (svs.all fun s => match s with | .d _ => true | _ => false) = true then .ok (.d (.tuple ds)) e else .stuck
    | none => .stuck)
  | .exc x e => .exc x e
  | .stuck => .stuck := by
  unfold mTup
  rw [s_bind]
  cases r en with
  | ok a e => first | rfl | (dsimp only; cases looks e a <;> rfl)
  | exc _ _ => rfl
  | stuck => rfl
@[simp] theorem s_lst (r : M (List SV)) : mLst r en = match r en with
  | .ok svs e => (match looks e svs with
    | some ds => if ds.length ≤ sizeLine ∧ (svs.all fun s => match s with | .d _ => true | _ => false) = true then .ok (.own (.lst ds)) e else .stuck
    | none => .stuck)
  | .exc x e => .exc x e
  | .stuck => .stuck := by
  unfold mLst
  rw [s_bind]
  cases r en with
  | ok a e => first | rfl | (dsimp only; cases looks e a <;> rfl)
  | exc _ _ => rfl
  | stuck => rfl
@[simp] theorem s_sortSet (m : M SV) : mSortSet m en = match mfrz m en with
  | .ok sv e => (match look e sv with
    | some d => (match ssD d with
      | some xs => .ok (.own (.lst (xs.map .str))) e
      | none => .stuck)
    | none => .stuck)
  | .exc x e => .exc x e
  | .stuck => .stuck := by
  unfold mSortSet
  rw [s_bind]
  cases mfrz m en with
  | ok a e => first | rfl | (dsimp only; cases look e a <;> first | rfl | (rename_i d; dsimp only; cases ssD d <;> rfl))
  | exc _ _ => rfl
  | stuck => rfl
theorem sizeLine_ge : 1000000 ≤ sizeLine := by
  rw [sizeLine_eq]
  omega
@[simp] theorem dAll_bools (bs : List Bool) : dAll (.list (bs.map .bool)) = mpure (.d (.bool (bs.all id))) := by
  have h : ∀ bs : List Bool, bools (bs.map .bool) = some bs := fun bs => by
    induction bs with
    | nil => rfl
    | cons b r ih => simp only [List.map_cons, bools, ih, Option.map_some]
  show bvD ((bools (bs.map .bool)).map fun bs => bs.all id) = _
  rw [h]
  rfl
theorem forGo_fold {γ : Type} {tg : Tg} {body : M Ct} {c : Option (Nat × List D)} (st : γ → En) (step : γ → D → γ) (hc : ∀ s, chkOk c (st s) = true) : ∀ (ds : List D) (s : γ), (∀ s, ∀ d ∈ ds, ∃ en1, setTg tg d (st s) = some en1 ∧ (body en1 = .ok .nx (st (step s d)) ∨ body en1 = .ok .ct (st (step s d)))) → forGo tg c body ds (st s) = .ok .nx (st (ds.foldl step s))
  | [], s, _ => by unfold forGo; rw [if_pos (hc s)]; rfl
  | d :: r, s, h => by
    obtain ⟨en1, h1, h2⟩ := h s d List.mem_cons_self
    unfold forGo
    rw [if_pos (hc s), h1]
    dsimp only
    rcases h2 with h2 | h2
    all_goals
      rw [h2]
      exact forGo_fold st step hc r (step s d) fun s x m => h s x (List.mem_cons_of_mem _ m)
end L2

namespace L2
open PySem PySem.Spec PyProof.Rows
/-! ### lists of texts compared -/
theorem strs_lay : ∀ xs : List Str, (∀ x ∈ xs, PyData.strOk x = true) → PyData.canLayAll0 (xs.map .str) = true
  | [], _ => by simp [PyData.canLayAll0]
  | x :: r, h => by simp [PyData.canLayAll0, PyData.canLay0, strs_lay r fun y m => h y (List.mem_cons_of_mem _ m), h x List.mem_cons_self]
theorem strs_depth : ∀ xs : List Str, PyData.depthAll (xs.map .str) = 0
  | [] => by simp [PyData.depthAll]
  | x :: r => by simp [PyData.depthAll, PyData.depth, strs_depth r]
theorem strs_plain : ∀ xs : List Str, plains (xs.map .str) = true
  | [] => rfl
  | x :: r => by simp [plains, plain, strs_plain r]
theorem strs_eqv : ∀ xs ys : List Str, PyData.eqvAll (xs.map .str) (ys.map .str) = decide (xs = ys)
  | [], [] => by simp [PyData.eqvAll]
  | [], _ :: _ => by simp [PyData.eqvAll]
  | _ :: _, [] => by simp [PyData.eqvAll]
  | x :: r, y :: s => by
    simp only [List.map_cons, PyData.eqvAll, PyData.eqv, strs_eqv r s]
    by_cases h : x = y <;> by_cases g : r = s <;> simp [h, g]
theorem eq_strs (xs ys : List Str) (hx : ∀ x ∈ xs, PyData.strOk x = true) (hy : ∀ x ∈ ys, PyData.strOk x = true) : eqD (.list (xs.map .str)) (.list (ys.map .str)) = some (decide (xs = ys)) := by
  have e1 : scalD (.list (xs.map .str)) (.list (ys.map .str)) = none := rfl
  have s : ∀ zs : List Str, (∀ x ∈ zs, PyData.strOk x = true) → SeqAt.shaped (.list (zs.map .str)) = true := fun zs h => by
    simp [SeqAt.shaped, PyData.canLay0, strs_lay zs h, PyData.depth, strs_depth]
  unfold eqD
  rw [e1]
  have c : plain (.list (xs.map .str)) = true ∧ plain (.list (ys.map .str)) = true ∧ SeqAt.shaped (.list (xs.map .str)) = true ∧ SeqAt.shaped (.list (ys.map .str)) = true := ⟨by simp [plain, strs_plain], by simp [plain, strs_plain], s _ hx, s _ hy⟩
  simp only [c, and_self, if_true]
  congr 1
  rw [show PyData.eqv (.list (xs.map .str)) (.list (ys.map .str)) = PyData.eqvAll (xs.map .str) (ys.map .str) by simp [PyData.eqv]]
  exact strs_eqv xs ys
theorem strsOf_map : ∀ xs : List Str, strsOf (xs.map .str) = some xs
  | [] => rfl
  | x :: r => by
    show (strsOf (r.map .str)).map (x :: ·) = _
    rw [strsOf_map r]
    rfl
theorem ssD_strs {xs : List Str} (h : xs.length < 64) : ssD (.list (xs.map .str)) = some (sortSet xs) := by
  show (match strsOf (xs.map .str) with
    | some xs => if xs.length < 64 then some (sortSet xs) else none
    | none => none) = _
  rw [strsOf_map]
  simp only [h, if_true]
/-! ### words -/
abbrev Ws := List (Str × Int)
def pD (p : Str × Int) : D := .tuple [.str p.1, .int p.2]
def wsD (ws : Ws) : D := .tuple (ws.map pD)
theorem flat_pD (p : Str × Int) : flat (pD p) = true := rfl
theorem flats_ws : ∀ ws : Ws, flats (ws.map pD) = true
  | [] => rfl
  | p :: r => by
    show (flat (pD p) && flats (r.map pD)) = true
    rw [flats_ws r]
    rfl
theorem flat_wsD (ws : Ws) : flat (wsD ws) = true := flats_ws ws
end L2

namespace L2
open PySem PySem.Spec PyProof.Rows
/-! ### sorted names -/
def ltS (a b : Str) : Prop := leS a b = true ∧ a ≠ b
theorem sortSet_pw (xs : List Str) : (sortSet xs).Pairwise fun a b => leS a b = true := sortStrs_pw _
theorem sortSet_nodup (xs : List Str) : (sortSet xs).Nodup := (sortStrs_perm _).nodup_iff.mpr (nodup_dedup _ xs (Nat.le_refl _))
theorem mem_sortSet {xs : List Str} {x : Str} : x ∈ sortSet xs ↔ x ∈ xs := (sortStrs_perm _).mem_iff.trans List.mem_eraseDups
theorem sortSet_eq {xs : List Str} (h1 : xs.Pairwise fun a b => leS a b = true) (h2 : xs.Nodup) : xs = sortSet xs := sortSet_uniq h2 (fun _ => Iff.rfl) h1
/-! ### dicts of words -/
def tabOf (ws : Ws) : List (Key × D) := ws.map fun p => (.inr p.1, .int p.2)
theorem putD_new {kds : List (Key × D)} {k : Key} {d : D} (h : ∀ p ∈ kds, p.1 ≠ k) : putD kds k d = kds ++ [(k, d)] := by
  unfold putD
  rw [if_neg]
  intro c
  obtain ⟨p, mp, e⟩ := List.any_eq_true.mp c
  exact h p mp (of_decide_eq_true e)
theorem dcGo_ws {mk mv : M SV} {en0 : En} {tg : Tg} (h : ∀ p : Str × Int, ∃ en1, setTg tg (pD p) en0 = some en1 ∧ mkeep mk en1 = .ok (.d (.str p.1)) en1 ∧ mkeep mv en1 = .ok (.d (.int p.2)) en1) :
    ∀ (ws : Ws) (pre : Ws), ((pre ++ ws).map (·.1)).Nodup → pre.length + ws.length ≤ sizeLine → dcGo tg mYes mk mv en0 (ws.map pD) (tabOf pre) = some (tabOf (pre ++ ws))
  | [], pre, _, _ => by simp [dcGo]
  | p :: r, pre, nd, hl => by
    obtain ⟨en1, h1, h2, h3⟩ := h p
    have e : mYes en1 = .ok true en1 := rfl
    have hlen : (tabOf pre).length < sizeLine := by
      unfold tabOf
      rw [List.length_map]
      simp at hl
      omega
    have hk : ∀ q ∈ tabOf pre, q.1 ≠ (Sum.inr p.1 : Key) := fun q mq c => by
      unfold tabOf at mq
      obtain ⟨w, mw, rfl⟩ := List.mem_map.mp mq
      have c2 : w.1 = p.1 := by injection c
      rw [List.map_append, List.map_cons, List.nodup_append] at nd
      exact nd.2.2 w.1 (List.mem_map.mpr ⟨w, mw, rfl⟩) p.1 List.mem_cons_self c2
    have et : putD (tabOf pre) (.inr p.1) (.int p.2) = tabOf (pre ++ [p]) := by
      rw [putD_new hk]
      unfold tabOf
      rw [List.map_append]
      rfl
    rw [List.map_cons]
    unfold dcGo
    simp only [h1, e, if_true, h2, h3, keyD, true_and, hlen, et]
    rw [dcGo_ws h r (pre ++ [p]) (by simpa using nd) (by simp at hl ⊢; omega)]
    simp
@[simp] theorem s_dc {en : En} (tg : Tg) (vs : List Nat) (mi : M SV) (mc : M Bool) (mk mv : M SV) : mDc tg vs mi mc mk mv en = match mfrz mi en with
  | .ok (.d (.list ds)) e => mDcGo tg vs mc mk mv ds e
  | .ok (.d (.tuple ds)) e => mDcGo tg vs mc mk mv ds e
  | .ok (.d (.str z)) e => mDcGo tg vs mc mk mv (L2.signs z) e
  | .ok (.bor i) e => (match e[i]? with
    | some (some (.own (.lst ds))) => if vs.contains i then .stuck else mDcGo tg vs mc mk mv ds e
    | _ => .stuck)
  | .exc x e => .exc x e
  | _ => .stuck := by
  unfold mDc
  rw [s_bind]
  cases mfrz mi en with
  | ok sv e => cases sv with
    | d d => cases d <;> rfl
    | bor _ => rfl
    | own _ => rfl
  | exc _ _ => rfl
  | stuck => rfl
theorem dc_ok {en : En} {tg : Tg} {vs : List Nat} {mc : M Bool} {mk mv : M SV} {ds : List D} {r : List (Key × D)} (h : noOwn en vs = true) (e : dcGo tg mc mk mv (wipeEn en vs) ds [] = some r) : mDcGo tg vs mc mk mv ds en = .ok (.own (.dct r)) en := by
  unfold mDcGo
  rw [if_pos h, e]
def valW (ws : Ws) (x : Str) : Int := match ws.find? fun p => decide (p.1 = x) with
  | some p => p.2
  | none => 0
theorem valD_tab (ws : Ws) (x : Str) : (valD (tabOf ws) (.inr x)).getD (.int 0) = .int (valW ws x) := by
  unfold valD tabOf valW
  rw [List.find?_map]
  have e : ((fun kv : Key × D => decide (kv.1 = (Sum.inr x : Key))) ∘ fun p : Str × Int => ((Sum.inr p.1 : Key), PyData.int p.2)) = fun p => decide (p.1 = x) := by
    funext p
    simp
  rw [e]
  cases ws.find? fun p => decide (p.1 = x) <;> rfl
@[simp] theorem s_raise {en : En} (cls : Str) (nms : List Str) (mas : M (List SV)) : mRaise cls nms mas en = match mas en with
  | .ok svs e => (match dataOf svs with
    | some ds => .exc ⟨cls, (nms.zip ds).reverse⟩ e
    | none => .stuck)
  | .exc x e => .exc x e
  | .stuck => .stuck := by
  unfold mRaise
  rw [s_bind]
  cases mas en with
  | ok a e => first | rfl | (dsimp only; cases dataOf a <;> rfl)
  | exc _ _ => rfl
  | stuck => rfl
@[simp] theorem s_data_nil : dataOf [] = some [] := rfl
@[simp] theorem s_data_d (d : D) (r : List SV) : dataOf (.d d :: r) = match dataOf r with
  | some ds => some (d :: ds)
  | none => none := rfl
@[simp] theorem s_get2_own {en e1 e2 : En} {mo mk mx : M SV} {kds : List (Key × D)} {x : Str} {z : D} (h1 : mo en = .ok (.own (.dct kds)) e1) (h2 : mk e1 = .ok (.d (.str x)) e2) (h3 : mx e2 = .ok (.d z) e2) : mGet2 mo mk mx en = .ok (.d ((valD kds (.inr x)).getD z)) e2 := by
  unfold mGet2
  rw [s_bind, h1]
  dsimp only
  rw [s_bind, s_frz, h2]
  dsimp only
  rw [s_bind, s_keep, h3]
  rfl
theorem ix_dct (kds : List (D × D)) (k : Str) : ixD (.dict kds) (.str k) = lookD (.str k) kds := by
  unfold ixD
  split
  · rename_i heq _; exact PyData.noConfusion heq
  · rename_i heq _; exact PyData.noConfusion heq
  · rename_i heq _; exact PyData.noConfusion heq
  · rename_i h1 h2; exact PyData.noConfusion h2
  · rename_i heq _
    cases heq
    rfl
  · rename_i h _ _ _ _
    exact (h kds rfl).elim
end L2

namespace L2
open PySem PySem.Spec PyProof.Rows
variable {en : En}
@[simp] theorem s_sub (a b : Int) : dSub (.int a) (.int b) = mpure (.d (.int (a - b))) := rfl
@[simp] theorem s_mod (a b : Int) : dMod (.int a) (.int b) en = if 0 < b then .ok (.d (.int (a % b))) en else .stuck := by
  show ivD (if 0 < b then some (.int (a % b)) else none) en = _
  split <;> rfl
@[simp] theorem s_div (a b : Int) : dDiv (.int a) (.int b) en = if 0 < b ∧ b < 2 ^ 64 then .ok (.d (.int (a / b))) en else .stuck := by
  show ivD (if 0 < b ∧ b < 2 ^ 64 then some (.int (a / b)) else none) en = _
  split <;> rfl
@[simp] theorem s_mul (a b : Int) : dMulL (.int a) (.int b) en = if (-(2 ^ 64) < a ∧ a < 2 ^ 64) ∨ (-(2 ^ 64) < b ∧ b < 2 ^ 64) then .ok (.d (.int (a * b))) en else .stuck := by
  show ivD (if (-(2 ^ 64) < a ∧ a < 2 ^ 64) ∨ (-(2 ^ 64) < b ∧ b < 2 ^ 64) then some (.int (a * b)) else none) en = _
  split <;> rfl
@[simp] theorem s_pow (a b : Int) : dPow (.int a) (.int b) en = if (0 ≤ b ∧ b ≤ 1000000) ∧ a.natAbs < 2 ^ 64 then .ok (.d (.int (a ^ b.toNat))) en else .stuck := by
  show ivD (if (0 ≤ b ∧ b ≤ 1000000) ∧ a.natAbs < 2 ^ 64 then some (.int (a ^ b.toNat)) else none) en = _
  split <;> rfl
@[simp] theorem s_max2 (a b : Int) : dMax2 [.int a, .int b] = mpure (.d (.int (if b > a then b else a))) := rfl
@[simp] theorem s_min2 (a b : Int) : dMin2 [.int a, .int b] = mpure (.d (.int (if b < a then b else a))) := rfl
@[simp] theorem s_mut (i : Nat) (f : List D → D → Option (List D)) (me : M SV) : mMut i f me en = match en[i]? with
  | some (some (.own (.lst _))) => (match mkeep me en with
    | .ok (.d d) e => (match e[i]? with
      | some (some (.own (.lst ds))) => (match f ds d with
        | some es => .ok .nx (e.set i (some (.own (.lst es))))
        | none => .stuck)
      | _ => .stuck)
    | .exc x e => .exc x e
    | _ => .stuck)
  | _ => .stuck := by
  unfold mMut
  cases en[i]? with
  | none => rfl
  | some o =>
    cases o with
    | none => rfl
    | some s =>
      cases s with
      | d _ => rfl
      | bor _ => rfl
      | own o =>
        cases o with
        | dct _ => rfl
        | lst ds0 =>
          dsimp only
          rw [s_bind]
          cases mkeep me en with
          | exc _ _ => rfl
          | stuck => rfl
          | ok sv e =>
            cases sv with
            | own _ => rfl
            | bor _ => rfl
            | d d =>
              dsimp only
              cases e[i]? with
              | none => rfl
              | some o => cases o with
                | none => rfl
                | some s => cases s with
                  | d _ => rfl
                  | bor _ => rfl
                  | own o => cases o with
                    | lst ds => first | rfl | (dsimp only; cases f ds d <;> rfl)
                    | dct _ => rfl
@[simp] theorem s_append (i : Nat) (me : M SV) : mAppend i me = mMut i fAppend me := rfl
@[simp] theorem s_fapp (ds : List D) (d : D) : fAppend ds d = if ds.length < sizeLine then some (ds ++ [d]) else none := rfl
@[simp] theorem s_tg (i : Nat) (d : D) : setTg (.nm i) d en = some (en.set i (some (.d d))) := rfl
@[simp] theorem s_forR1 (tg : Tg) (mas : M (List SV)) (body : M Ct) : mForR1 tg mas body en = match mas en with
  | .ok svs e => (match looks e svs with
    | some [.int j] => if -(2 ^ 62) ≤ j ∧ j < 2 ^ 62 then forGo tg none body (rngD 0 j.toNat) e else .stuck
    | _ => .stuck)
  | .exc x e => .exc x e
  | .stuck => .stuck := by
  unfold mForR1
  rw [s_bind]
  cases mas en with
  | ok a e => rfl
  | exc _ _ => rfl
  | stuck => rfl
theorem forGo_inv {tg : Tg} {c : Option (Nat × List D)} {body : M Ct} (P : Nat → En → Prop) {ds0 : List D} (hc : ∀ i e, P i e → chkOk c e = true)
    (step : ∀ i d e, ds0[i]? = some d → P i e → ∃ e1 e2, setTg tg d e = some e1 ∧ (body e1 = .ok .nx e2 ∨ body e1 = .ok .ct e2) ∧ P (i + 1) e2) :
    ∀ (ds : List D) (i : Nat), ds = ds0.drop i → ∀ e, P i e → ∃ e', forGo tg c body ds e = .ok .nx e' ∧ P (i + ds.length) e'
  | [], i, _, e, h => ⟨e, by unfold forGo; rw [if_pos (hc i e h)], h⟩
  | d :: r, i, hd, e, h => by
    have hi : ds0[i]? = some d := by
      have := congrArg List.head? hd
      simpa [List.head?_drop] using this.symm
    obtain ⟨e1, e2, h1, h2, h3⟩ := step i d e hi h
    have hr : r = ds0.drop (i + 1) := by
      have := congrArg List.tail hd
      simpa [List.tail_drop] using this
    obtain ⟨e', q1, q2⟩ := forGo_inv P hc step r (i + 1) hr e2 h3
    refine ⟨e', ?_, by rw [List.length_cons, show i + (r.length + 1) = i + 1 + r.length by omega]; exact q2⟩
    unfold forGo
    rw [if_pos (hc i e h), h1]
    dsimp only
    rcases h2 with h2 | h2 <;> (rw [h2]; exact q1)
theorem for_inv {tg : Tg} {body : M Ct} (P : Nat → En → Prop) {ds : List D} (step : ∀ i d e, ds[i]? = some d → P i e → ∃ e1 e2, setTg tg d e = some e1 ∧ (body e1 = .ok .nx e2 ∨ body e1 = .ok .ct e2) ∧ P (i + 1) e2) {e : En} (h : P 0 e) :
    ∃ e', forGo tg none body ds e = .ok .nx e' ∧ P ds.length e' := by
  have := forGo_inv P (c := none) (fun _ _ _ => rfl) step ds 0 rfl e h
  simpa using this
theorem rng_get {lo : Int} {n i : Nat} {d : D} (h : (rngD lo n)[i]? = some d) : i < n ∧ d = .int (lo + (i : Nat)) := by
  unfold rngD at h
  rw [List.getElem?_map] at h
  cases q : (List.range n)[i]? with
  | none => rw [q] at h; cases h
  | some k =>
    rw [q] at h
    cases h
    have hk := List.getElem?_eq_some_iff.mp q
    obtain ⟨h1, h2⟩ := hk
    rw [List.getElem_range] at h2
    subst h2
    exact ⟨by simpa using h1, rfl⟩
theorem atI_at {ds : List D} {i : Int} {d : D} (h0 : 0 ≤ i) (h : ds[i.toNat]? = some d) : atI ds i = some d := by
  have := atI_nat h
  rwa [Int.toNat_of_nonneg h0] at this
theorem ix_scr (ns : List Int) (i : Int) : ixD (scrD ns) (.int i) = atI (ns.map .int) i := rfl
theorem forR1_run {tg : Tg} {mas : M (List SV)} {body : M Ct} {e : En} {j : Int} (h : mas en = .ok [.d (.int j)] e) (h0 : 0 ≤ j) (h1 : j ≤ 1000000) : mForR1 tg mas body en = forGo tg none body (rngD 0 j.toNat) e := by
  rw [s_forR1, h]
  show (if -(2 ^ 62) ≤ j ∧ j < 2 ^ 62 then forGo tg none body (rngD 0 j.toNat) e else .stuck) = _
  rw [if_pos ⟨by omega, by omega⟩]
end L2

namespace KG
open PySem PySem.Spec PyProof.Rows L2
noncomputable def m_is_integer : M Ct := mRet (mBV (mAndT (mB (mIsi .tInt (mVar 0))) (mB (mBV (mNotT (mB (mIsi .tBool (mVar 0))))))))
noncomputable def F_is_integer : Fm := runF 1 1 m_is_integer
noncomputable def m_is_row : M Ct := mSeq (mIfS (mNotT (mB (mIsi .tTuple (mVar 0)))) (mRet (mC (.bool false))) (mNx)) (mSeq (mIfS (mNotT (mB (mCallD (d1 dAll) (mCons (mLc (.nm 2) [2] (mVar 0) (mYes) (mBV (mAndT (mB (mCall F_is_integer (mCons (mVar 2) (mNil)))) (mB (mChain dLe dLt (mC (.int 0)) (mVar 2) (mVar 1)))))) (mNil))))) (mRet (mC (.bool false))) (mNx)) (mRet (mOp2 dEq (mCallD (d1 dList) (mCons (mVar 0) (mNil))) (mSortSetI (mVar 0)))))
noncomputable def F_is_row : Fm := runF 2 3 m_is_row
noncomputable def m_is_graph : M Ct := mRet (mBV (mAndT (mB (mIsi .tTuple (mVar 0))) (mB (mCallD (d1 dAll) (mCons (mLcE (.tp [1, 2]) [1, 2] (mVar 0) (mYes) (mCall F_is_row (mCons (mVar 2) (mCons (mVar 1) (mNil))))) (mNil))))))
noncomputable def F_is_graph : Fm := runF 1 3 m_is_graph
noncomputable def m_check_graph : M Ct := mIfS (mNotT (mB (mCall F_is_graph (mCons (mVar 0) (mNil))))) (mRaise "InvalidGraph" ["value"] (mCons (mVar 0) (mNil))) (mNx)
noncomputable def F_check_graph : Fm := runF 1 1 m_check_graph
noncomputable def m_is_free : M Ct := mRet (mCallD (d1 dAll) (mCons (mLc (.nm 3) [3] (mOp2 dIx (mVar 0) (mVar 2)) (mYes) (mOp2 dInK (mVar 3) (mVar 1))) (mNil)))
noncomputable def F_is_free : Fm := runF 3 4 m_is_free
noncomputable def m_listed : M Ct := mSeq (mExpr (mCall F_check_graph (mCons (mVar 0) (mNil)))) (mSeq (mSet 3 (mLst (mNil))) (mSeq (mSet 4 (mpure (.own (.dct [])))) (mSeq (mSet 5 (mCallD (d1 dList) (mCons (mVar 2) (mNil)))) (mSeq (mWhile 64 (mTru (mVar 5)) (mSeq (mSet 6 (mSl2 (mLc (.nm 7) [7] (mVar 5) (mB (mCall F_is_free (mCons (mVar 0) (mCons (mVar 4) (mCons (mVar 7) (mNil)))))) (mVar 7)) none (some (mVar 1)))) (mSeq (mAppend 3 (mCallD (d1 dTuple) (mCons (mCallD (d1 dSorted) (mCons (mVar 6) (mNil))) (mNil)))) (mSeq (mUpd 4 (mDc (.nm 7) [7] (mVar 6) (mYes) (mVar 7) (mC (.bool true)))) (mSet 5 (mLc (.nm 7) [7] (mVar 5) (mB (mOp2 dNinK (mVar 7) (mVar 4))) (mVar 7))))))) (mRet (mCallD (d1 dTuple) (mCons (mVar 3) (mNil))))))))
noncomputable def F_listed : Fm := runF 3 8 m_listed
noncomputable def m__law_cell : M Ct := mSeq (mIfS (mB (mOp2 dLt (mVar 1) (mCallD (d1 dLen) (mCons (mVar 0) (mNil))))) (mRet (mOp2 dIx (mVar 0) (mVar 1))) (mNx)) (mSeq (mSet 2 (mC (.int 17))) (mSeq (mFor (.nm 3) [2] (mSl2 (mVar 0) none (some (mC (.int 3)))) (mSet 2 (mOp2 dMod (mCallD (d1 dInt) (mCons (mOp2 dAdd (mOp2 dMulL (mVar 2) (mC (.int 1009))) (mVar 3)) (mNil))) (mC (.int 999983))))) (mRet (mOp2 dAdd (mOp2 dMulL (mVar 2) (mC (.int 64))) (mVar 1)))))
noncomputable def F__law_cell : Fm := runF 2 4 m__law_cell
noncomputable def m__law_draws : M Ct := mSeq (mSet 2 (mCallD (d1 dAbs) (mCons (mVar 0) (mNil)))) (mSeq (mSet 3 (mOp2 dGe (mVar 2) (mOp2 dPow (mC (.int 10)) (mC (.int 18))))) (mSeq (mIfS (mTru (mVar 3)) (mSet 2 (mOp2 dSub (mVar 2) (mOp2 dPow (mC (.int 10)) (mC (.int 18))))) (mIfS (mB (mOp2 dLt (mVar 0) (mC (.int 0)))) (mSet 2 (mOp2 dAdd (mVar 2) (mC (.int 500009)))) (mNx))) (mSeq (mSet 4 (mLst (mNil))) (mSeq (mForR1 (.nm 5) (mCons (mCallD (d1 dLen) (mCons (mVar 1) (mNil))) (mNil)) (mIfS (mTru (mVar 3)) (mSeq (mAppend 4 (mOp2 dMod (mCallD (d1 dInt) (mCons (mVar 2) (mNil))) (mOp2 dIx (mVar 1) (mVar 5)))) (mSet 2 (mOp2 dDiv (mVar 2) (mOp2 dIx (mVar 1) (mVar 5))))) (mSeq (mSet 6 (mOp2 dMod (mCallD (d1 dInt) (mCons (mOp2 dAdd (mOp2 dMulL (mVar 2) (mC (.int 48271))) (mOp2 dMulL (mOp2 dAdd (mVar 5) (mC (.int 1))) (mC (.int 69621)))) (mNil))) (mC (.int 2147483647)))) (mSeq (mSet 6 (mOp2 dMod (mCallD (d1 dInt) (mCons (mOp2 dAdd (mOp2 dMulL (mVar 6) (mC (.int 40692))) (mOp2 dMulL (mOp2 dDiv (mVar 6) (mC (.int 3791))) (mOp2 dAdd (mVar 5) (mC (.int 5))))) (mNil))) (mC (.int 2147483399)))) (mAppend 4 (mOp2 dMod (mCallD (d1 dInt) (mCons (mOp2 dDiv (mVar 6) (mC (.int 7))) (mNil))) (mOp2 dIx (mVar 1) (mVar 5)))))))) (mRet (mVar 4))))))
noncomputable def F__law_draws : Fm := runF 2 7 m__law_draws
noncomputable def m__law_graph : M Ct := mSeq (mSet 3 (mCall F__law_draws (mCons (mCall F__law_cell (mCons (mVar 0) (mCons (mVar 1) (mNil)))) (mCons (mLst (mCons (mOp2 dAdd (mVar 2) (mC (.int 1))) (mCons (mC (.int 4)) (mNil)))) (mNil))))) (mSeq (mSet 4 (mLst (mNil))) (mSeq (mForR1 (.nm 5) (mCons (mOp2 dIx (mVar 3) (mC (.int 0))) (mNil)) (mSeq (mSet 6 (mCall F__law_draws (mCons (mCall F__law_cell (mCons (mVar 0) (mCons (mOp2 dAdd (mOp2 dAdd (mVar 1) (mC (.int 1))) (mVar 5)) (mNil)))) (mCons (mOp2 dAdd (mLst (mCons (mOp2 dAdd (mC (.int 3)) (mOp2 dIx (mVar 3) (mC (.int 1)))) (mNil))) (mOp2 dMulL (mLst (mCons (mCallD dMax2 (mCons (mC (.int 1)) (mCons (mVar 5) (mNil)))) (mNil))) (mC (.int 3)))) (mNil))))) (mSeq (mSet 7 (mLst (mNil))) (mSeq (mFor (.nm 8) [] (mSl2 (mVar 6) (some (mC (.int 1))) (some (mOp2 dAdd (mC (.int 1)) (mCallD dMin2 (mCons (mC (.int 3)) (mCons (mOp2 dIx (mVar 6) (mC (.int 0))) (mNil))))))) (mIfS (mAndT (mB (mOp2 dGt (mVar 5) (mC (.int 0)))) (mB (mOp2 dNin (mVar 8) (mVar 7)))) (mInsert 7 (mCallD (d1 dLen) (mCons (mLc (.nm 9) [9] (mVar 7) (mB (mOp2 dLt (mVar 9) (mVar 8))) (mVar 9)) (mNil))) (mVar 8)) (mNx))) (mAppend 4 (mCallD (d1 dTuple) (mCons (mVar 7) (mNil)))))))) (mRet (mCallD (d1 dTuple) (mCons (mVar 4) (mNil))))))
noncomputable def F__law_graph : Fm := runF 3 10 m__law_graph
noncomputable def m__law_free : M Ct := mRet (mLcR (.nm 2) [2] (mCons (mCallD (d1 dLen) (mCons (mVar 0) (mNil))) (mNil)) (mAndT (mB (mOp2 dNin (mVar 2) (mVar 1))) (mB (mOp2 dEq (mLc (.nm 3) [3] (mOp2 dIx (mVar 0) (mVar 2)) (mB (mOp2 dNin (mVar 3) (mVar 1))) (mVar 3)) (mLst (mNil))))) (mVar 2))
noncomputable def F__law_free : Fm := runF 2 4 m__law_free
noncomputable def m__law_listed : M Ct := mSeq (mSet 3 (mLst (mNil))) (mSeq (mSet 4 (mLst (mNil))) (mSeq (mForR1 (.nm 5) (mCons (mCallD (d1 dLen) (mCons (mVar 0) (mNil))) (mNil)) (mSeq (mSet 6 (mCall F__law_free (mCons (mVar 0) (mCons (mVar 3) (mNil))))) (mSeq (mIfS (mB (mOp2 dEq (mVar 6) (mLst (mNil)))) (mpure .bk) (mNx)) (mSeq (mSet 7 (mSl2 (mLc (.nm 8) [8] (mVar 2) (mB (mOp2 dIn (mVar 8) (mVar 6))) (mVar 8)) none (some (mVar 1)))) (mSeq (mAppend 4 (mCallD (d1 dTuple) (mCons (mLcR (.nm 9) [9] (mCons (mCallD (d1 dLen) (mCons (mVar 0) (mNil))) (mNil)) (mB (mOp2 dIn (mVar 9) (mVar 7))) (mVar 9)) (mNil)))) (mSet 3 (mOp2 dAdd (mVar 3) (mVar 7)))))))) (mRet (mCallD (d1 dTuple) (mCons (mVar 4) (mNil))))))
noncomputable def F__law_listed : Fm := runF 3 10 m__law_listed
noncomputable def m__law_order : M Ct := mSeq (mSet 2 (mCall F__law_draws (mCons (mVar 0) (mCons (mOp2 dAdd (mLcR (.nm 5) [5] (mCons (mVar 1) (mNil)) (mYes) (mCallD dMax2 (mCons (mC (.int 1)) (mCons (mOp2 dSub (mVar 1) (mVar 5)) (mNil))))) (mLst (mCons (mC (.int 1)) (mNil)))) (mNil))))) (mSeq (mSet 3 (mLRange (mVar 1))) (mSeq (mSet 4 (mLst (mNil))) (mSeq (mForR1 (.nm 5) (mCons (mVar 1) (mNil)) (mSeq (mAppend 4 (mOp2 dIx (mVar 3) (mOp2 dIx (mVar 2) (mVar 5)))) (mSet 3 (mOp2 dAdd (mSl2 (mVar 3) none (some (mOp2 dIx (mVar 2) (mVar 5)))) (mSl2 (mVar 3) (some (mOp2 dAdd (mOp2 dIx (mVar 2) (mVar 5)) (mC (.int 1)))) none))))) (mRet (mVar 4)))))
noncomputable def F__law_order : Fm := runF 2 6 m__law_order
end KG

namespace L2
open PySem PySem.Spec PyProof.Rows
variable {en : En}
/-! ### more of the mirror's steps -/
@[simp] theorem s_tru (m : M SV) : mTru m en = match mfrz m en with
  | .ok sv e => (match look e sv with
    | some d => (match truD d with
      | some b => .ok b e
      | none => .stuck)
    | none => .stuck)
  | .exc x e => .exc x e
  | .stuck => .stuck := by
  unfold mTru
  rw [s_bind]
  cases mfrz m en with
  | ok a e => first | rfl | (dsimp only; cases look e a <;> first | rfl | (rename_i d; dsimp only; cases truD d <;> rfl))
  | exc _ _ => rfl
  | stuck => rfl
@[simp] theorem s_tru_b (b : Bool) : truD (.bool b) = some b := rfl
@[simp] theorem s_tru_l (ds : List D) : truD (.list ds) = some (!ds.isEmpty) := rfl
@[simp] theorem s_tru_t (ds : List D) : truD (.tuple ds) = some (!ds.isEmpty) := rfl
@[simp] theorem s_for (tg : Tg) (wb : List Nat) (me : M SV) (body : M Ct) : mFor tg wb me body en = match mfrz me en with
  | .ok (.d (.list ds)) e => forGo tg none body ds e
  | .ok (.d (.tuple ds)) e => forGo tg none body ds e
  | .ok (.d (.str z)) e => forGo tg none body (L2.signs z) e
  | .ok (.bor i) e => (match e[i]? with
    | some (some (.own (.lst ds))) => if (tg.slots ++ wb).contains i then .stuck else forGo tg (some (i, ds)) body ds e
    | _ => .stuck)
  | .exc x e => .exc x e
  | _ => .stuck := by
  unfold mFor
  rw [s_bind]
  cases mfrz me en with
  | ok sv e => cases sv with
    | d d => cases d <;> rfl
    | bor _ => rfl
    | own _ => rfl
  | exc _ _ => rfl
  | stuck => rfl
@[simp] theorem s_lcR (tg : Tg) (vs : List Nat) (mas : M (List SV)) (mc : M Bool) (me : M SV) : mLcR tg vs mas mc me en = match mas en with
  | .ok svs e => (match looks e svs with
    | some [.int j] => if -(2 ^ 62) ≤ j ∧ j < 2 ^ 62 then mComp tg vs mc me (rngD 0 j.toNat) e else .stuck
    | _ => .stuck)
  | .exc x e => .exc x e
  | .stuck => .stuck := by
  unfold mLcR
  rw [s_bind]
  cases mas en <;> rfl
@[simp] theorem s_lcE (tg : Tg) (vs : List Nat) (mi : M SV) (mc : M Bool) (me : M SV) : mLcE tg vs mi mc me en = match mfrz mi en with
  | .ok (.d (.tuple ds)) e => mComp tg vs mc me (enumD ds) e
  | .exc x e => .exc x e
  | _ => .stuck := by
  unfold mLcE
  rw [s_bind]
  cases mfrz mi en with
  | ok sv e => cases sv with
    | d d => cases d <;> rfl
    | bor _ => rfl
    | own _ => rfl
  | exc _ _ => rfl
  | stuck => rfl
@[simp] theorem s_sortSetI (m : M SV) : mSortSetI m en = match mfrz m en with
  | .ok sv e => (match look e sv with
    | some d => (match siD d with
      | some is => .ok (.own (.lst (is.map .int))) e
      | none => .stuck)
    | none => .stuck)
  | .exc x e => .exc x e
  | .stuck => .stuck := by
  unfold mSortSetI
  rw [s_bind]
  cases mfrz m en with
  | ok a e => first | rfl | (dsimp only; cases look e a <;> first | rfl | (rename_i d; dsimp only; cases siD d <;> rfl))
  | exc _ _ => rfl
  | stuck => rfl
@[simp] theorem s_lrange (m : M SV) : mLRange m en = match mfrz m en with
  | .ok sv e => (match look e sv with
    | some (.int j) => if -(2 ^ 62) ≤ j ∧ j ≤ 2 ^ 20 then .ok (.own (.lst (rngD 0 j.toNat))) e else .stuck
    | _ => .stuck)
  | .exc x e => .exc x e
  | .stuck => .stuck := by
  unfold mLRange
  rw [s_bind]
  cases mfrz m en with
  | ok a e => first | rfl | (dsimp only; cases look e a <;> first | rfl | (rename_i d; cases d <;> rfl))
  | exc _ _ => rfl
  | stuck => rfl
@[simp] theorem s_expr (m : M SV) : mExpr m en = match m en with
  | .ok _ e => .ok .nx e
  | .exc x e => .exc x e
  | .stuck => .stuck := by
  unfold mExpr
  rw [s_bind]
  cases m en <;> rfl
theorem s_slH {ma mh : M SV} {x : D} {j : Int} {e1 e2 : En} {sv : SV} (h1 : mfrz ma en = .ok sv e1) (h2 : mfrz mh e1 = .ok (.d (.int j)) e2) (hx : look e2 sv = some x) : mSl2 ma none (some mh) en = dSl x none (some j) e2 := by
  unfold mSl2
  rw [s_bind, h1]
  dsimp only
  rw [s_bind, h2]
  dsimp only
  rw [hx]
  rfl
theorem s_slL {ma ml : M SV} {x : D} {j : Int} {e1 e2 : En} {sv : SV} (h1 : mfrz ma en = .ok sv e1) (h2 : mfrz ml e1 = .ok (.d (.int j)) e2) (hx : look e2 sv = some x) : mSl2 ma (some ml) none en = dSl x (some j) none e2 := by
  unfold mSl2
  rw [s_bind, h1]
  dsimp only
  rw [s_bind, h2]
  dsimp only
  rw [hx]
  rfl
theorem s_slLH {ma ml mh : M SV} {x : D} {i j : Int} {e1 e2 e3 : En} {sv : SV} (h1 : mfrz ma en = .ok sv e1) (h2 : mfrz ml e1 = .ok (.d (.int i)) e2) (h3 : mfrz mh e2 = .ok (.d (.int j)) e3) (hx : look e3 sv = some x) : mSl2 ma (some ml) (some mh) en = dSl x (some i) (some j) e3 := by
  unfold mSl2
  rw [s_bind, h1]
  dsimp only
  rw [s_bind, h2]
  dsimp only
  rw [s_look_d]
  dsimp only
  rw [s_bind, h3]
  dsimp only
  rw [hx]
  rfl
@[simp] theorem s_mulL (ds : List D) (k : Int) : dMulL (.list ds) (.int k) en = if (-(2 ^ 63) ≤ k ∧ k < 2 ^ 63) ∧ ds.length * k.toNat ≤ sizeLine then Rs.ok (SV.own (OB.lst (repD ds k.toNat))) en else Rs.stuck := by
  show (if (-(2 ^ 63) ≤ k ∧ k < 2 ^ 63) ∧ ds.length * k.toNat ≤ sizeLine then (mpure (SV.own (OB.lst (repD ds k.toNat))) : M SV) else mstuck) en = _
  split <;> rfl
@[simp] theorem s_add_l (xs ys : List D) : dAdd (.list xs) (.list ys) en = if xs.length + ys.length ≤ sizeLine then Rs.ok (SV.own (OB.lst (xs ++ ys))) en else Rs.stuck := by
  show (if xs.length + ys.length ≤ sizeLine then (mpure (SV.own (OB.lst (xs ++ ys))) : M SV) else mstuck) en = _
  split <;> rfl
@[simp] theorem s_dInK (x y : D) : dInK x y en = match inK x y with
  | some b => .ok (.d (.bool b)) en
  | none => .stuck := rfl
@[simp] theorem s_dNinK (x y : D) : dNinK x y en = match inK x y with
  | some b => .ok (.d (.bool !b)) en
  | none => .stuck := by
  unfold dNinK bvD
  cases inK x y <;> rfl
@[simp] theorem s_dIn (x y : D) : dIn x y en = match inD x y with
  | some b => .ok (.d (.bool b)) en
  | none => .stuck := rfl
@[simp] theorem s_dNin (x y : D) : dNin x y en = match inD x y with
  | some b => .ok (.d (.bool !b)) en
  | none => .stuck := by
  unfold dNin bvD
  cases inD x y <;> rfl
@[simp] theorem s_dGe_i (a b : Int) : dGe (.int a) (.int b) = mpure (.d (.bool (decide (b ≤ a)))) := rfl
@[simp] theorem s_dList_l (ds : List D) : dList (.list ds) = mpure (.own (.lst ds)) := rfl
@[simp] theorem s_dList_t (ds : List D) : dList (.tuple ds) = mpure (.own (.lst ds)) := rfl
@[simp] theorem s_dTuple_l (ds : List D) : dTuple (.list ds) = mpure (.d (.tuple ds)) := rfl
@[simp] theorem s_dAbs (i : Int) : dAbs (.int i) = mpure (.d (.int (if i < 0 then -i else i))) := rfl
@[simp] theorem s_dRepr (x : D) : dRepr x en = match reprD x with
  | some z => .ok (.d (.str z)) en
  | none => .stuck := by
  unfold dRepr ivD
  cases reprD x <;> rfl
theorem seq_ok {m n : M Ct} {e : En} (h : m en = .ok .nx e) : mSeq m n en = n e := by rw [s_seq, h]
theorem call_d {F : Fm} {mas : M (List SV)} {svs : List SV} {e e2 : En} {ds : List D} {d : D} (h1 : mas en = .ok svs e) (h2 : looksA e svs = some ds) (h3 : F ds = .ok (.d d) e2) (hf : flat d = true) : mCall F mas en = .ok (.d d) e := by
  rw [s_call, h1]
  dsimp only
  rw [h2]
  dsimp only
  rw [h3]
  dsimp only
  rw [if_pos hf]
theorem call_own {F : Fm} {mas : M (List SV)} {svs : List SV} {e e2 : En} {ds : List D} {o : OB} (h1 : mas en = .ok svs e) (h2 : looksA e svs = some ds) (h3 : F ds = .ok (.own o) e2) (hf : flatO o = true) : mCall F mas en = .ok (.own o) e := by
  rw [s_call, h1]
  dsimp only
  rw [h2]
  dsimp only
  rw [h3]
  dsimp only
  rw [if_pos hf]
theorem frz_own {m : M SV} {e : En} {ds : List D} (h : m en = .ok (.own (.lst ds)) e) : mfrz m en = .ok (.d (.list ds)) e := by rw [s_frz, h]
theorem frz_d {m : M SV} {e : En} {d : D} (h : m en = .ok (.d d) e) : mfrz m en = .ok (.d d) e := by rw [s_frz, h]
theorem set_own {i : Nat} {m : M SV} {e : En} {o : OB} (h : m en = .ok (.own o) e) : mSet i m en = .ok .nx (e.set i (some (.own o))) := by rw [s_set, h]
theorem set_d {i : Nat} {m : M SV} {e : En} {d : D} (h : m en = .ok (.d d) e) : mSet i m en = .ok .nx (e.set i (some (.d d))) := by rw [s_set, h]
theorem append_ok {i : Nat} {m : M SV} {e : En} {d : D} {ds0 ds : List D} (h0 : en[i]? = some (some (.own (.lst ds0)))) (h : mkeep m en = .ok (.d d) e) (h1 : e[i]? = some (some (.own (.lst ds)))) (hl : ds.length < sizeLine) : mAppend i m en = .ok .nx (e.set i (some (.own (.lst (ds ++ [d]))))) := by
  rw [s_append, s_mut, h0]
  dsimp only
  rw [h]
  dsimp only
  rw [h1]
  dsimp only
  rw [s_fapp, if_pos hl]
theorem cons_ok {m : M SV} {r : M (List SV)} {a : SV} {as : List SV} {e e2 : En} (h1 : mfrz m en = .ok a e) (h2 : r e = .ok as e2) (hl : lentOk e2 a = true) : mCons m r en = .ok (a :: as) e2 := by
  rw [s_cons, h1]
  dsimp only
  rw [h2]
  dsimp only
  rw [if_pos hl]
theorem callD_ok {f : List D → M SV} {mas : M (List SV)} {svs : List SV} {ds : List D} {e : En} (h1 : mas en = .ok svs e) (h2 : looks e svs = some ds) : mCallD f mas en = f ds e := by
  rw [s_callD, h1]
  dsimp only
  rw [h2]
theorem op2_ok {f : D → D → M SV} {ma mb : M SV} {a b : SV} {x y : D} {e1 e2 : En} (h1 : mfrz ma en = .ok a e1) (h2 : mfrz mb e1 = .ok b e2) (hx : look e2 a = some x) (hy : look e2 b = some y) : mOp2 f ma mb en = f x y e2 := by
  rw [s_op2, h1]
  dsimp only
  rw [h2]
  dsimp only
  rw [hx, hy]
/-! ### lists of ints and what is in them -/
theorem isFlat_ints (xs : List Int) : (xs.map PyData.int).all isFlat = true := by
  rw [List.all_eq_true]
  intro d m
  obtain ⟨i, _, rfl⟩ := List.mem_map.mp m
  rfl
theorem any_ints (xs : List Int) (k : Int) : ((xs.map PyData.int).any fun d => PyData.eqv d (.int k)) = decide (k ∈ xs) := by
  induction xs with
  | nil => rfl
  | cons x r ih =>
    rw [List.map_cons, List.any_cons, ih]
    have e : PyData.eqv (.int x) (.int k) = decide (x = k) := by
      simp only [PyData.eqv]
      rfl
    rw [e, Bool.eq_iff_iff, Bool.or_eq_true, decide_eq_true_eq, decide_eq_true_eq, decide_eq_true_eq, List.mem_cons]
    exact or_congr eq_comm Iff.rfl
@[simp] theorem inD_l (xs : List Int) (k : Int) : inD (.int k) (.list (xs.map .int)) = some (decide (k ∈ xs)) := by
  show (if isFlat (.int k) = true ∧ (xs.map PyData.int).all isFlat = true then some ((xs.map PyData.int).any fun d => PyData.eqv d (.int k)) else _) = _
  rw [if_pos ⟨rfl, isFlat_ints xs⟩, any_ints]
@[simp] theorem inD_t (xs : List Int) (k : Int) : inD (.int k) (.tuple (xs.map .int)) = some (decide (k ∈ xs)) := by
  show (if isFlat (.int k) = true ∧ (xs.map PyData.int).all isFlat = true then some ((xs.map PyData.int).any fun d => PyData.eqv d (.int k)) else _) = _
  rw [if_pos ⟨rfl, isFlat_ints xs⟩, any_ints]
/-- a comprehension over embedded items -/
theorem compGo_emb {α : Type} {f : α → D} {tg : Tg} {mc : M Bool} {me : M SV} {en0 : En} {p : α → Bool} {g : α → D} : ∀ (xs : List α) (acc : List D), (∀ x ∈ xs, ∃ en1, setTg tg (f x) en0 = some en1 ∧ mc en1 = .ok (p x) en1 ∧ (p x = true → mkeep me en1 = .ok (.d (g x)) en1)) → acc.length + xs.length ≤ sizeLine →
    compGo tg mc me en0 (xs.map f) acc = some (acc ++ (xs.filter p).map g)
  | [], acc, _, _ => by simp [compGo]
  | x :: r, acc, h, l => by
    obtain ⟨en1, h1, h2, h3⟩ := h x List.mem_cons_self
    have l2 : acc.length < sizeLine := by simp at l; omega
    rw [List.map_cons]
    unfold compGo
    simp only [h1]
    cases e : p x with
    | false =>
      simp only [h2, e, if_true]
      rw [compGo_emb r _ (fun x m => h x (List.mem_cons_of_mem _ m)) (by simp at l ⊢; omega)]
      simp [e]
    | true =>
      simp only [h2, e, if_true, h3 e, true_and, l2]
      rw [compGo_emb r _ (fun x m => h x (List.mem_cons_of_mem _ m)) (by simp at l ⊢; omega)]
      simp [e]
theorem comp_emb {α : Type} {f : α → D} {tg : Tg} {vs : List Nat} {mc : M Bool} {me : M SV} {p : α → Bool} {g : α → D} (xs : List α) (hn : noOwn en vs = true) (h : ∀ x ∈ xs, ∃ en1, setTg tg (f x) (wipeEn en vs) = some en1 ∧ mc en1 = .ok (p x) en1 ∧ (p x = true → mkeep me en1 = .ok (.d (g x)) en1))
    (hl : xs.length ≤ sizeLine) : mComp tg vs mc me (xs.map f) en = .ok (.own (.lst ((xs.filter p).map g))) en := by
  have z := compGo_emb xs [] h (by simpa using hl)
  rw [List.nil_append] at z
  exact comp_ok hn z
/-- all of bools -/
theorem bools_map (bs : List Bool) : bools (bs.map .bool) = some bs := by
  induction bs with
  | nil => rfl
  | cons b r ih => simp only [List.map_cons, bools, ih, Option.map_some]
/-- a for loop over embedded items, nothing but the environment -/
theorem for_step {tg : Tg} {c : Option (Nat × List D)} {body : M Ct} {d : D} {r : List D} {e e1 e2 : En} (hc : chkOk c e = true) (h1 : setTg tg d e = some e1) (h2 : body e1 = .ok .nx e2) : forGo tg c body (d :: r) e = forGo tg c body r e2 := by
  rw [forGo, if_pos hc, h1]
  dsimp only
  rw [h2]
theorem for_bk {tg : Tg} {c : Option (Nat × List D)} {body : M Ct} {d : D} {r : List D} {e e1 e2 : En} (hc : chkOk c e = true) (h1 : setTg tg d e = some e1) (h2 : body e1 = .ok .bk e2) : forGo tg c body (d :: r) e = .ok .nx e2 := by
  rw [forGo, if_pos hc, h1]
  dsimp only
  rw [h2]
theorem for_nil {tg : Tg} {c : Option (Nat × List D)} {body : M Ct} {e : En} (hc : chkOk c e = true) : forGo tg c body [] e = .ok .nx e := by
  rw [forGo, if_pos hc]
theorem wh_step {n : Nat} {t : M Bool} {b : M Ct} {e e1 e2 : En} (h1 : t e = .ok true e1) (h2 : b e1 = .ok .nx e2) : whGo t b (n + 1) e = whGo t b n e2 := by
  rw [whGo, h1]
  dsimp only
  rw [h2]
theorem wh_end {n : Nat} {t : M Bool} {b : M Ct} {e e1 : En} (h1 : t e = .ok false e1) : whGo t b (n + 1) e = .ok .nx e1 := by
  rw [whGo, h1]
end L2

namespace KG
open PySem PySem.Spec PyProof.Rows L2
/-! ### graphs and what is listed, without the language -/
abbrev Gr := List (List Int)
def rngI (n : Nat) : List Int := (List.range n).map fun k => ((k : Nat) : Int)
theorem mem_rng {n : Nat} {k : Int} : k ∈ rngI n ↔ 0 ≤ k ∧ k < n := by
  unfold rngI
  rw [List.mem_map]
  constructor
  · rintro ⟨a, m, rfl⟩
    have := List.mem_range.mp m
    omega
  · intro h
    exact ⟨k.toNat, List.mem_range.mpr (by omega), by omega⟩
theorem rng_asc (n : Nat) : (rngI n).Pairwise (· < ·) := by
  unfold rngI
  rw [List.pairwise_map]
  exact List.pairwise_lt_range.imp fun h => by omega
theorem rng_nodup (n : Nat) : (rngI n).Nodup := (rng_asc n).imp fun h => by omega
theorem rng_len (n : Nat) : (rngI n).length = n := by simp [rngI]
theorem rngD_rng (n : Nat) : rngD 0 n = (rngI n).map .int := by
  unfold rngD rngI
  rw [List.map_map]
  exact List.map_congr_left fun k _ => by simp
structure GOk (g : Gr) : Prop where
  few : g.length ≤ 62
  asc : ∀ r ∈ g, r.Pairwise (· < ·)
  low : ∀ (i : Nat) (r : List Int), g[i]? = some r → ∀ x ∈ r, 0 ≤ x ∧ x < i
def rowOf (g : Gr) (k : Int) : List Int := g.getD k.toNat []
def isFr (g : Gr) (done : List Int) (k : Int) : Bool := (rowOf g k).all fun p => decide (p ∈ done)
theorem isFr_iff {g : Gr} {done : List Int} {k : Int} : isFr g done k = true ↔ ∀ p ∈ rowOf g k, p ∈ done := by
  unfold isFr
  rw [List.all_eq_true]
  exact ⟨fun h p m => of_decide_eq_true (h p m), fun h p m => decide_eq_true (h p m)⟩
theorem row_low {g : Gr} (G : GOk g) {k p : Int} (h0 : 0 ≤ k) (m : p ∈ rowOf g k) : 0 ≤ p ∧ p < k := by
  unfold rowOf at m
  rw [List.getD_eq_getElem?_getD] at m
  cases e : g[k.toNat]? with
  | none => rw [e] at m; simp at m
  | some r =>
    rw [e] at m
    have := G.low _ _ e p (by simpa using m)
    omega
/-- what listed takes in a step -/
def pkStep (g : Gr) (c : Nat) (done left : List Int) : List Int := (left.filter (isFr g done)).take c
def pk (g : Gr) (c : Nat) : Nat → List Int → List Int → List (List Int)
  | 0, _, _ => []
  | n + 1, done, left => if left = [] then [] else sortI (pkStep g c done left) :: pk g c n (done ++ pkStep g c done left) (left.filter fun k => !decide (k ∈ done ++ pkStep g c done left))
def lwFree (g : Gr) (done : List Int) : List Int := (rngI g.length).filter fun k => !decide (k ∈ done) && isFr g done k
def lwStep (g : Gr) (c : Nat) (order done : List Int) : List Int := (order.filter fun k => decide (k ∈ lwFree g done)).take c
def lw (g : Gr) (c : Nat) (order : List Int) : Nat → List Int → List (List Int)
  | 0, _ => []
  | n + 1, done => if lwFree g done = [] then [] else ((rngI g.length).filter fun k => decide (k ∈ lwStep g c order done)) :: lw g c order n (done ++ lwStep g c order done)
/-- a row of all nodes -/
structure Ord (n : Nat) (o : List Int) : Prop where
  nd : o.Nodup
  mem : ∀ k, k ∈ o ↔ 0 ≤ k ∧ k < n
theorem Ord.len {n : Nat} {o : List Int} (O : Ord n o) : o.length = n := by
  have p : o.Perm (rngI n) := (List.perm_ext_iff_of_nodup O.nd (rng_nodup n)).mpr fun k => (O.mem k).trans mem_rng.symm
  rw [p.length_eq, rng_len]
theorem min_of : ∀ (l : List Int), l ≠ [] → ∃ k ∈ l, ∀ j ∈ l, k ≤ j
  | [], h => absurd rfl h
  | [x], _ => ⟨x, List.mem_cons_self, fun j m => by rw [List.mem_singleton.mp m]; exact Int.le_refl _⟩
  | x :: y :: r, _ => by
    obtain ⟨k, m, h⟩ := min_of (y :: r) (by simp)
    by_cases e : x ≤ k
    · exact ⟨x, List.mem_cons_self, fun j mj => by
        rcases List.mem_cons.mp mj with rfl | mj
        · exact Int.le_refl _
        · exact Int.le_trans e (h j mj)⟩
    · exact ⟨k, List.mem_cons_of_mem _ m, fun j mj => by
        rcases List.mem_cons.mp mj with rfl | mj
        · omega
        · exact h j mj⟩
theorem take_sub {α : Type} {l : List α} {c : Nat} {x : α} (m : x ∈ l.take c) : x ∈ l := List.mem_of_mem_take m
section
variable {g : Gr} {c : Nat} {order done : List Int}
theorem step_eq (O : Ord g.length order) : lwStep g c order done = pkStep g c done (order.filter fun k => !decide (k ∈ done)) := by
  unfold lwStep pkStep
  rw [List.filter_filter]
  congr 1
  refine List.filter_congr fun k m => ?_
  rw [Bool.eq_iff_iff]
  simp only [decide_eq_true_eq, Bool.and_eq_true, lwFree, List.mem_filter, mem_rng, Bool.not_eq_true', decide_eq_false_iff_not]
  have := (O.mem k).mp m
  constructor
  · rintro ⟨_, h1, h2⟩; exact ⟨h2, h1⟩
  · rintro ⟨h2, h1⟩; exact ⟨this, h1, h2⟩
theorem step_sub {left : List Int} {k : Int} (m : k ∈ pkStep g c done left) : k ∈ left ∧ isFr g done k = true := List.mem_filter.mp (take_sub m)
theorem step_nodup {left : List Int} (nd : left.Nodup) : (pkStep g c done left).Nodup := (nd.filter _).sublist (List.take_sublist _ _)
/-- there is always one that is ready -/
theorem some_free (G : GOk g) (O : Ord g.length order) (hl : (order.filter fun k => !decide (k ∈ done)) ≠ []) : ∃ k, k ∈ (order.filter fun k => !decide (k ∈ done)) ∧ isFr g done k = true := by
  obtain ⟨k, m, h⟩ := min_of _ hl
  refine ⟨k, m, isFr_iff.mpr fun p mp => ?_⟩
  have mk := List.mem_filter.mp m
  have rk := (O.mem k).mp mk.1
  have lp := row_low G rk.1 mp
  refine Classical.byContradiction fun n => ?_
  have mp' : p ∈ order.filter fun k => !decide (k ∈ done) := List.mem_filter.mpr ⟨(O.mem p).mpr ⟨lp.1, by omega⟩, by simp [n]⟩
  have := h p mp'
  omega
theorem step_some (G : GOk g) (O : Ord g.length order) (hc : 1 ≤ c) (hl : (order.filter fun k => !decide (k ∈ done)) ≠ []) : pkStep g c done (order.filter fun k => !decide (k ∈ done)) ≠ [] := by
  obtain ⟨k, m, f⟩ := some_free G O hl
  unfold pkStep
  intro e
  have mk : k ∈ (order.filter fun k => !decide (k ∈ done)).filter (isFr g done) := List.mem_filter.mpr ⟨m, f⟩
  rw [List.take_eq_nil_iff] at e
  rcases e with e | e
  · omega
  · rw [e] at mk; cases mk
theorem left_next {st : List Int} : ((order.filter fun k => !decide (k ∈ done)).filter fun k => !decide (k ∈ done ++ st)) = order.filter fun k => !decide (k ∈ done ++ st) := by
  rw [List.filter_filter]
  refine List.filter_congr fun k _ => ?_
  rw [Bool.eq_iff_iff]
  simp only [Bool.and_eq_true, Bool.not_eq_true', decide_eq_false_iff_not, List.mem_append, not_or]
  exact ⟨fun h => h.1, fun h => ⟨h, h.1⟩⟩
theorem left_less {st : List Int} (hs : st ≠ []) (sub : ∀ k ∈ st, k ∈ order.filter fun k => !decide (k ∈ done)) : (order.filter fun k => !decide (k ∈ done ++ st)).length < (order.filter fun k => !decide (k ∈ done)).length := by
  rw [← left_next]
  obtain ⟨k, mk⟩ := List.exists_mem_of_ne_nil _ hs
  exact List.length_filter_lt_length_iff_exists.mpr ⟨k, sub k mk, by simp [mk]⟩
theorem free_nil (O : Ord g.length order) (hl : (order.filter fun k => !decide (k ∈ done)) = []) : lwFree g done = [] := by
  unfold lwFree
  rw [List.filter_eq_nil_iff]
  intro k m h
  simp only [Bool.and_eq_true, Bool.not_eq_true', decide_eq_false_iff_not] at h
  have mo : k ∈ order := (O.mem k).mpr (mem_rng.mp m)
  have : k ∈ order.filter fun k => !decide (k ∈ done) := List.mem_filter.mpr ⟨mo, by simp [h.1]⟩
  rw [hl] at this
  cases this
theorem free_some (G : GOk g) (O : Ord g.length order) (hl : (order.filter fun k => !decide (k ∈ done)) ≠ []) : lwFree g done ≠ [] := by
  obtain ⟨k, m, f⟩ := some_free G O hl
  intro e
  have mk := List.mem_filter.mp m
  have : k ∈ lwFree g done := by
    unfold lwFree
    exact List.mem_filter.mpr ⟨mem_rng.mpr ((O.mem k).mp mk.1), by simpa [f] using mk.2⟩
  rw [e] at this
  cases this
theorem asc_eq {n : Nat} {st : List Int} (nd : st.Nodup) (h : ∀ k ∈ st, 0 ≤ k ∧ k < n) : sortI st = (rngI n).filter fun k => decide (k ∈ st) :=
  (sortI_uniq ((rng_asc n).filter _) fun k => by
    rw [List.mem_filter, mem_rng, decide_eq_true_eq]
    exact ⟨fun x => x.2, fun x => ⟨h k x, x⟩⟩).symm
theorem pk_lw (G : GOk g) (O : Ord g.length order) (hc : 1 ≤ c) : ∀ (m m1 : Nat) (done : List Int), (order.filter fun k => !decide (k ∈ done)).length ≤ m → (order.filter fun k => !decide (k ∈ done)).length < m1 →
    pk g c m1 done (order.filter fun k => !decide (k ∈ done)) = lw g c order m done := by
  intro m
  induction m with
  | zero =>
    intro m1 done h1 h2
    have e : (order.filter fun k => !decide (k ∈ done)) = [] := List.length_eq_zero_iff.mp (by omega)
    rw [e]
    cases m1 with
    | zero => rfl
    | succ m1 => rfl
  | succ m ih =>
    intro m1 done h1 h2
    cases m1 with
    | zero => omega
    | succ m1 =>
      by_cases e : (order.filter fun k => !decide (k ∈ done)) = []
      · rw [e, pk, lw, if_pos rfl, if_pos (free_nil O e)]
      · rw [pk, lw, if_neg e, if_neg (free_some G O e), step_eq O]
        have hs := step_some (c := c) G O hc e
        have sub : ∀ k ∈ pkStep g c done (order.filter fun k => !decide (k ∈ done)), k ∈ order.filter fun k => !decide (k ∈ done) := fun k mk => (step_sub mk).1
        have hlt := left_less hs sub
        rw [left_next, ih m1 _ (by omega) (by omega)]
        congr 1
        exact asc_eq (step_nodup (O.nd.filter _)) fun k mk => (O.mem k).mp (List.mem_filter.mp (sub k mk)).1
end
end KG

namespace L2
open PySem PySem.Spec PyProof.Rows
variable {en : En}
theorem eqv_ints (xs ys : List Int) : PyData.eqvAll (xs.map .int) (ys.map .int) = decide (xs = ys) := by
  induction xs generalizing ys with
  | nil => cases ys <;> simp [PyData.eqvAll]
  | cons x r ih =>
    cases ys with
    | nil => simp [PyData.eqvAll]
    | cons y s =>
      simp only [List.map_cons, PyData.eqvAll, ih s, PyData.eqv]
      by_cases h : x = y <;> by_cases g : r = s <;> simp [h, g]
theorem ints_plain (xs : List Int) : plains (xs.map .int) = true := by
  induction xs with
  | nil => rfl
  | cons x r ih => simp [plains, plain, ih]
theorem ints_lay (xs : List Int) : PyData.canLayAll0 (xs.map .int) = true := by
  induction xs with
  | nil => simp [PyData.canLayAll0]
  | cons x r ih => simp [PyData.canLayAll0, PyData.canLay0, ih]
theorem ints_depth (xs : List Int) : PyData.depthAll (xs.map .int) = 0 := by
  induction xs with
  | nil => simp [PyData.depthAll]
  | cons x r ih => simp [PyData.depthAll, PyData.depth, ih]
theorem ints_shaped (xs : List Int) : SeqAt.shaped (.list (xs.map .int)) = true := by
  simp [SeqAt.shaped, PyData.canLay0, ints_lay, PyData.depth, ints_depth]
theorem eq_ints (xs ys : List Int) : eqD (.list (xs.map .int)) (.list (ys.map .int)) = some (decide (xs = ys)) := by
  have e1 : scalD (.list (xs.map .int)) (.list (ys.map .int)) = none := rfl
  unfold eqD
  rw [e1]
  have c : plain (.list (xs.map .int)) = true ∧ plain (.list (ys.map .int)) = true ∧ SeqAt.shaped (.list (xs.map .int)) = true ∧ SeqAt.shaped (.list (ys.map .int)) = true := ⟨by simp [plain, ints_plain], by simp [plain, ints_plain], ints_shaped _, ints_shaped _⟩
  simp only [c, and_self, if_true]
  congr 1
  rw [show PyData.eqv (.list (xs.map .int)) (.list (ys.map .int)) = PyData.eqvAll (xs.map .int) (ys.map .int) by simp [PyData.eqv]]
  exact eqv_ints xs ys
theorem flats_ints (xs : List Int) : flats (xs.map .int) = true := by
  induction xs with
  | nil => rfl
  | cons x r ih => simp [flats, flat, ih]
theorem run_nx {n N : Nat} {body : M Ct} {ds : List D} {e : En} (hl : ds.length = n) (h : body (ds.map (fun d => some (SV.d d)) ++ List.replicate (N - n) none) = .ok .nx e) : runF n N body ds = .ok (.d .none) [] := by
  unfold runF
  rw [if_pos hl, h]
theorem len_emb {α : Type} (f : α → D) (xs : List α) : ((xs.map f).length : Int) = (xs.length : Int) := by rw [List.length_map]
end L2
namespace KG
open PySem PySem.Spec PyProof.Rows L2
def rowD (r : List Int) : D := .tuple (r.map .int)
def gD (g : Gr) : D := .tuple (g.map rowD)
theorem flat_row (r : List Int) : flat (rowD r) = true := flats_ints r
theorem flats_rows (g : Gr) : flats (g.map rowD) = true := by
  induction g with
  | nil => rfl
  | cons r g ih =>
    rw [List.map_cons]
    show (flat (rowD r) && flats (g.map rowD)) = true
    rw [flat_row, ih]
    rfl
theorem flat_g (g : Gr) : flat (gD g) = true := flats_rows g
theorem asc_len {n : Nat} {r : List Int} (asc : r.Pairwise (· < ·)) (low : ∀ x ∈ r, 0 ≤ x ∧ x < n) : r.length ≤ n := by
  have e := asc_eq (n := n) (asc.imp fun h => by omega) low
  rw [sortI_self asc] at e
  rw [e]
  refine Nat.le_trans (List.length_filter_le _ _) ?_
  rw [rng_len]
  exact Nat.le_refl _
theorem isint_ok (x : Int) : F_is_integer [.int x] = .ok (.d (.bool true)) [] := by
  unfold F_is_integer m_is_integer
  rfl
theorem row_ok {r : List Int} {i : Int} (hl : r.length ≤ 62) (asc : r.Pairwise (· < ·)) (low : ∀ x ∈ r, 0 ≤ x ∧ x < i) : F_is_row [rowD r, .int i] = .ok (.d (.bool true)) [] := by
  have hz := sizeLine_ge
  have hc : mComp (.nm 2) [2] mYes (mBV (mAndT (mB (mCall F_is_integer (mCons (mVar 2) (mNil)))) (mB (mChain dLe dLt (mC (.int 0)) (mVar 2) (mVar 1))))) (r.map .int) [some (.d (rowD r)), some (.d (.int i)), none] = .ok (.own (.lst ((r.map fun _ => true).map .bool))) [some (.d (rowD r)), some (.d (.int i)), none] := by
    rw [comp_emb (f := PyData.int) (p := fun _ => true) (g := fun _ => .bool true) r rfl (fun x m => ?_) (by omega)]
    · rw [List.filter_eq_self.mpr fun _ _ => rfl, List.map_map]
      rfl
    · refine ⟨[some (.d (rowD r)), some (.d (.int i)), some (.d (.int x))], rfl, rfl, fun _ => ?_⟩
      obtain ⟨h0, h1⟩ := low x m
      simp [isint_ok, flat, h0, h1]
  have hs : siD (rowD r) = some r := by
    unfold rowD
    show (match intsOf (r.map .int) with
      | some is => if is.length ≤ 62 then some (sortI is) else none
      | none => none) = _
    rw [intsOf_map]
    simp only [hl, if_true, sortI_self asc]
  refine run_ok rfl (e := [some (.d (rowD r)), some (.d (.int i)), none]) ?_
  have ht : isiD .tTuple (rowD r) = some true := rfl
  have hall : (r.map fun _ => true).all id = true := by simp
  have hr : dList (rowD r) = mpure (.own (.lst (r.map .int))) := rfl
  unfold m_is_row
  simp only [s_seq, s_ifS, s_notT, s_B, s_isi, s_frz, s_var, s_look_d, s_bv, ht, List.map_cons, List.map_nil, List.cons_append, List.nil_append, List.getElem?_cons_zero, List.getElem?_cons_succ, List.replicate, Bool.not_true, s_nx, s_callD, s_cons, s_nil, s_lc]
  have e0 : rowD r = .tuple (r.map .int) := rfl
  simp only [e0] at hc ⊢
  simp only [show (3 - 2 : Nat) = 1 from rfl, List.replicate, hc, s_lent_d, if_true, s_looks_cons, s_looks_nil, s_look_d, s_d1, dAll_bools, hall, s_pure, Bool.not_true, s_ret, s_op2, s_frz, s_callD, s_cons, s_nil, s_var, List.getElem?_cons_zero, s_dList_t, s_sortSetI, s_dEq]
  rw [← e0, hs]
  simp only [s_look_d, eq_ints, decide_true]
/-- is_graph -/
theorem enum_emb (g : Gr) : enumD (g.map rowD) = g.zipIdx.map fun p => .tuple [.int p.2, rowD p.1] := by
  unfold enumD
  rw [List.zipIdx_map, List.map_map]
  rfl
theorem graph_ok {g : Gr} (G : GOk g) : F_is_graph [gD g] = .ok (.d (.bool true)) [] := by
  have hz := sizeLine_ge
  have hc : mComp (.tp [1, 2]) [1, 2] mYes (mCall F_is_row (mCons (mVar 2) (mCons (mVar 1) (mNil)))) (enumD (g.map rowD)) [some (.d (gD g)), none, none] = .ok (.own (.lst ((g.zipIdx.map fun _ => true).map .bool))) [some (.d (gD g)), none, none] := by
    rw [enum_emb, comp_emb (f := fun p : List Int × Nat => PyData.tuple [.int p.2, rowD p.1]) (p := fun _ => true) (g := fun _ => .bool true) g.zipIdx rfl (fun p m => ?_) (by rw [List.length_zipIdx]; have := G.few; omega)]
    · rw [List.filter_eq_self.mpr fun _ _ => rfl, List.map_map]
      rfl
    · obtain ⟨r, i⟩ := p
      have hi : g[i]? = some r := by
        have := List.mem_zipIdx_iff_getElem?.mp m
        exact this
      have hlen : i < g.length := (List.getElem?_eq_some_iff.mp hi).1
      have hg := G.few
      have asc := G.asc r (List.mem_of_getElem? hi)
      have low := G.low i r hi
      have few : r.length ≤ 62 := by
        have := asc_len asc low
        omega
      refine ⟨[some (.d (gD g)), some (.d (.int i)), some (.d (rowD r))], rfl, rfl, fun _ => ?_⟩
      have hr := row_ok (i := (i : Int)) few asc low
      simp only [s_keep, s_call, s_cons, s_frz, s_var, List.getElem?_cons_zero, List.getElem?_cons_succ, s_nil, s_lent_d, if_true, s_looksA_cons, s_looksA_nil, s_lookA_d, hr, flat]
  have hall : (g.zipIdx.map fun _ => true).all id = true := by simp
  refine run_ok rfl (e := [some (.d (gD g)), none, none]) ?_
  have ht : isiD .tTuple (gD g) = some true := rfl
  have e0 : gD g = .tuple (g.map rowD) := rfl
  unfold m_is_graph
  simp only [e0] at hc ht ⊢
  simp only [s_ret, s_BV, s_andT, s_B, s_isi, s_frz, s_var, List.map_cons, List.map_nil, List.cons_append, List.nil_append, List.getElem?_cons_zero, show (3 - 1 : Nat) = 2 from rfl, List.replicate, s_look_d, s_bv, ht, s_callD, s_cons, s_nil, s_lcE, hc, s_lent_d, if_true, s_looks_cons, s_looks_nil, s_d1, dAll_bools, hall, s_pure]
theorem check_ok {g : Gr} (G : GOk g) : F_check_graph [gD g] = .ok (.d .none) [] := by
  have hg := graph_ok G
  refine run_nx rfl (e := [some (.d (gD g))]) ?_
  unfold m_check_graph
  simp only [List.map_cons, List.map_nil, List.cons_append, List.nil_append, show (1 - 1 : Nat) = 0 from rfl, List.replicate, s_ifS, s_notT, s_B, s_call, s_cons, s_frz, s_var, List.getElem?_cons_zero, s_nil, s_lent_d, if_true, s_looksA_cons, s_looksA_nil, s_lookA_d, hg, flat, Bool.not_true, s_nx]
end KG

namespace L2
open PySem PySem.Spec PyProof.Rows
theorem cut_take (ds : List D) {c : Int} (h : 0 ≤ c) : L2.cutD ds none (some c) = ds.take c.toNat := by
  unfold L2.cutD
  have e1 : HT.sIx ds.length 0 none = 0 := rfl
  have e2 : HT.sIx ds.length ds.length (some c) = min c.toNat ds.length := by
    show (if c < 0 then (c + (ds.length : Int)).toNat else min c.toNat ds.length) = _
    rw [if_neg (by omega)]
  rw [e1, e2, List.drop_zero, Nat.sub_zero]
  by_cases hc : c.toNat ≤ ds.length
  · rw [Nat.min_eq_left hc]
  · rw [Nat.min_eq_right (by omega), List.take_length, List.take_of_length_le (by omega)]
theorem sortInts_sortI {xs : List Int} (nd : xs.Nodup) : sortInts xs = sortI xs := by
  have p : (sortInts xs).Perm xs := List.mergeSort_perm _ _
  refine sortI_uniq ?_ fun k => p.mem_iff
  have h1 := sortInts_pw xs
  have h2 : (sortInts xs).Nodup := p.nodup_iff.mpr nd
  exact (h1.and h2).imp fun h => by
    have := h.1
    have := h.2
    omega
theorem intsOf_strs (i : Int) (r : List Int) : strsOf ((i :: r).map .int) = none := rfl
theorem sortD_ints (xs : List Int) : sortD (.list (xs.map .int)) = some ((sortInts xs).map .int) := by
  cases xs with
  | nil =>
    have e1 : sortStrs [] = [] := List.perm_nil.mp (sortStrs_perm [])
    have e2 : sortInts [] = [] := List.perm_nil.mp (List.mergeSort_perm _ _)
    show (if ([] : List Str).length < 64 then some ((sortStrs []).map PyData.str) else none) = _
    rw [if_pos (by decide), e1, e2]
    rfl
  | cons i r =>
    show (match strsOf ((i :: r).map PyData.int) with
      | some xs => if xs.length < 64 then some ((sortStrs xs).map PyData.str) else none
      | none => (match intsOf ((i :: r).map PyData.int) with
        | some ns => some ((sortInts ns).map PyData.int)
        | none => none)) = _
    rw [intsOf_strs, intsOf_map]
theorem s_dSl_l {en : En} (ds : List D) (lo hi : Option Int) : dSl (.list ds) lo hi en = .ok (.own (.lst (L2.cutD ds lo hi))) en := rfl
@[simp] theorem s_dSorted {en : En} (d : D) : dSorted d en = match sortD d with
  | some l => .ok (.own (.lst l)) en
  | none => .stuck := rfl
@[simp] theorem s_upd {en : En} (i : Nat) (me : M SV) : mUpd i me en = match en[i]? with
  | some (some (.own (.dct _))) => (match me en with
    | .ok (.own (.dct more)) e => (match e[i]? with
      | some (some (.own (.dct kds))) => if kds.length + more.length ≤ sizeLine then .ok .nx (e.set i (some (.own (.dct (mergeD kds more))))) else .stuck
      | _ => .stuck)
    | .exc x e => .exc x e
    | _ => .stuck)
  | _ => .stuck := by
  unfold mUpd
  cases en[i]? with
  | none => rfl
  | some o =>
    cases o with
    | none => rfl
    | some s =>
      cases s with
      | d _ => rfl
      | bor _ => rfl
      | own o =>
        cases o with
        | lst _ => rfl
        | dct _ =>
          dsimp only
          rw [s_bind]
          cases me en with
          | exc _ _ => rfl
          | stuck => rfl
          | ok sv e =>
            cases sv with
            | d _ => rfl
            | bor _ => rfl
            | own o =>
              cases o with
              | lst _ => rfl
              | dct more =>
                dsimp only
                cases e[i]? with
                | none => rfl
                | some o => cases o with
                  | none => rfl
                  | some s => cases s with
                    | d _ => rfl
                    | bor _ => rfl
                    | own o => cases o <;> rfl
/-- a dict of ints, each with True -/
def doneK (done : List Int) : List (Key × D) := done.map fun k => (.inl k, .bool true)
theorem doneK_at (done : List Int) : ((doneK done).all fun p => isAt p.2) = true := by
  unfold doneK
  rw [List.all_map]
  exact List.all_eq_true.mpr fun _ _ => rfl
theorem inK_done (done : List Int) (k : Int) : inK (.int k) (dctD (doneK done)) = some (decide (k ∈ done)) := by
  unfold dctD
  show (match keyD (.int k), keysD ((doneK done).map fun p => (kD p.1, p.2)) with
    | some k, some ks => some (ks.any fun j => decide (j = k))
    | _, _ => none) = _
  rw [keysD_map]
  unfold doneK
  rw [List.map_map]
  show some (List.any (List.map _ done) _) = _
  congr 1
  rw [List.any_map, Bool.eq_iff_iff, List.any_eq_true, decide_eq_true_eq]
  constructor
  · rintro ⟨x, m, h⟩
    have h' : (Sum.inl x : Key) = Sum.inl k := of_decide_eq_true h
    injection h' with h'
    exact h' ▸ m
  · intro m
    exact ⟨k, m, decide_eq_true (by rfl)⟩
theorem putD_fresh {kds : List (Key × D)} {k : Key} {d : D} (h : ∀ p ∈ kds, p.1 ≠ k) : putD kds k d = kds ++ [(k, d)] := by
  unfold putD
  rw [if_neg]
  intro c
  obtain ⟨p, mp, e⟩ := List.any_eq_true.mp c
  exact h p mp (of_decide_eq_true e)
theorem doneK_ne {done : List Int} {k : Int} (h : k ∉ done) : ∀ p ∈ doneK done, p.1 ≠ (Sum.inl k : Key) := fun p mp e => by
  obtain ⟨x, mx, rfl⟩ := List.mem_map.mp mp
  have e' : (Sum.inl x : Key) = Sum.inl k := e
  injection e' with e'
  exact h (e' ▸ mx)
theorem merge_done : ∀ (st done : List Int), (done ++ st).Nodup → mergeD (doneK done) (doneK st) = doneK (done ++ st)
  | [], done, _ => by simp [mergeD, doneK]
  | k :: r, done, nd => by
    have hk : k ∉ done := fun m => by
      rw [List.nodup_append] at nd
      exact nd.2.2 k m k List.mem_cons_self rfl
    have e : putD (doneK done) (.inl k) (.bool true) = doneK (done ++ [k]) := by
      rw [putD_fresh (doneK_ne hk)]
      simp [doneK]
    show mergeD (putD (doneK done) (.inl k) (.bool true)) (doneK r) = _
    rw [e, merge_done r (done ++ [k]) (by simpa using nd)]
    simp
theorem dcGo_done {mk mv : M SV} {en0 : En} {tg : Tg} (h : ∀ k : Int, ∃ en1, setTg tg (.int k) en0 = some en1 ∧ mkeep mk en1 = .ok (.d (.int k)) en1 ∧ mkeep mv en1 = .ok (.d (.bool true)) en1) :
    ∀ (st pre : List Int), (pre ++ st).Nodup → pre.length + st.length ≤ sizeLine → dcGo tg mYes mk mv en0 (st.map .int) (doneK pre) = some (doneK (pre ++ st))
  | [], pre, _, _ => by simp [dcGo]
  | k :: r, pre, nd, hl => by
    obtain ⟨en1, h1, h2, h3⟩ := h k
    have e : mYes en1 = .ok true en1 := rfl
    have hlen : (doneK pre).length < sizeLine := by
      unfold doneK
      rw [List.length_map]
      simp at hl
      omega
    have hk : k ∉ pre := fun m => by
      rw [List.nodup_append] at nd
      exact nd.2.2 k m k List.mem_cons_self rfl
    have et : putD (doneK pre) (.inl k) (.bool true) = doneK (pre ++ [k]) := by
      rw [putD_fresh (doneK_ne hk)]
      simp [doneK]
    rw [List.map_cons]
    unfold dcGo
    simp only [h1, e, if_true, h2, h3, keyD, true_and, hlen, et]
    rw [dcGo_done h r (pre ++ [k]) (by simpa using nd) (by simp at hl ⊢; omega)]
    simp
end L2
namespace KG
open PySem PySem.Spec PyProof.Rows L2
theorem ix_row (g : Gr) {k : Int} (h0 : 0 ≤ k) (h1 : k < g.length) : ixD (gD g) (.int k) = some (rowD (rowOf g k)) := by
  show atI (g.map rowD) k = _
  refine atI_at h0 ?_
  have hl : k.toNat < g.length := by omega
  rw [List.getElem?_map, List.getElem?_eq_getElem hl]
  unfold rowOf
  rw [List.getD_eq_getElem?_getD, List.getElem?_eq_getElem hl]
  rfl
theorem row_mem {g : Gr} {k : Int} (h0 : 0 ≤ k) (h1 : k < g.length) : rowOf g k ∈ g := by
  have hl : k.toNat < g.length := by omega
  unfold rowOf
  rw [List.getD_eq_getElem?_getD, List.getElem?_eq_getElem hl]
  exact List.getElem_mem hl
theorem row_few {g : Gr} (G : GOk g) {k : Int} (h0 : 0 ≤ k) (h1 : k < g.length) : (rowOf g k).length ≤ 62 := by
  have := asc_len (n := k.toNat) (G.asc _ (row_mem h0 h1)) fun x m => by
    have := row_low G h0 m
    omega
  have := G.few
  omega
theorem free_ok {g : Gr} (G : GOk g) {done : List Int} {k : Int} (h0 : 0 ≤ k) (h1 : k < g.length) : F_is_free [gD g, dctD (doneK done), .int k] = .ok (.d (.bool (isFr g done k))) [] := by
  have hz := sizeLine_ge
  have hf := row_few G h0 h1
  have hc : mComp (.nm 3) [3] mYes (mOp2 dInK (mVar 3) (mVar 1)) ((rowOf g k).map .int) [some (.d (gD g)), some (.d (dctD (doneK done))), some (.d (.int k)), none] = .ok (.own (.lst (((rowOf g k).map fun p => decide (p ∈ done)).map .bool))) [some (.d (gD g)), some (.d (dctD (doneK done))), some (.d (.int k)), none] := by
    rw [comp_emb (f := PyData.int) (p := fun _ => true) (g := fun p => .bool (decide (p ∈ done))) (rowOf g k) rfl (fun p m => ?_) (by omega)]
    · rw [List.filter_eq_self.mpr fun _ _ => rfl, List.map_map]
      rfl
    · refine ⟨[some (.d (gD g)), some (.d (dctD (doneK done))), some (.d (.int k)), some (.d (.int p))], rfl, rfl, fun _ => ?_⟩
      simp only [s_keep, s_op2, s_frz, s_var, List.getElem?_cons_zero, List.getElem?_cons_succ, s_look_d, s_dInK, inK_done]
  have hi := ix_row g h0 h1
  refine run_ok rfl (e := [some (.d (gD g)), some (.d (dctD (doneK done))), some (.d (.int k)), none]) ?_
  unfold m_is_free
  have e0 : rowD (rowOf g k) = .tuple ((rowOf g k).map .int) := rfl
  simp only [s_ret, s_callD, s_cons, s_frz, s_lc, s_op2, s_var, List.map_cons, List.map_nil, List.cons_append, List.nil_append, List.getElem?_cons_zero, List.getElem?_cons_succ, show (4 - 3 : Nat) = 1 from rfl, List.replicate, s_look_d, s_dIx, hi, e0, hc, s_nil, s_lent_d, if_true, s_looks_cons, s_looks_nil, s_d1, dAll_bools, s_pure]
  congr 4
  unfold isFr
  rw [List.all_map]
  rfl
end KG

namespace KG
open PySem PySem.Spec PyProof.Rows L2
/-- the environment of listed's loop -/
abbrev enL (g : Gr) (c : Int) (od : D) (steps : List (List Int)) (done left : List Int) (s6 : Option SV) : En :=
  [some (.d (gD g)), some (.d (.int c)), some (.d od), some (.own (.lst (steps.map rowD))), some (.own (.dct (doneK done))), some (.own (.lst (left.map .int))), s6, none]
noncomputable abbrev bodyL : M Ct := mSeq (mSet 6 (mSl2 (mLc (.nm 7) [7] (mVar 5) (mB (mCall F_is_free (mCons (mVar 0) (mCons (mVar 4) (mCons (mVar 7) (mNil)))))) (mVar 7)) none (some (mVar 1)))) (mSeq (mAppend 3 (mCallD (d1 dTuple) (mCons (mCallD (d1 dSorted) (mCons (mVar 6) (mNil))) (mNil)))) (mSeq (mUpd 4 (mDc (.nm 7) [7] (mVar 6) (mYes) (mVar 7) (mC (.bool true)))) (mSet 5 (mLc (.nm 7) [7] (mVar 5) (mB (mOp2 dNinK (mVar 7) (mVar 4))) (mVar 7)))))
section
variable {g : Gr} (G : GOk g) {c : Int} (hc : 0 ≤ c) {od : D} {steps : List (List Int)} {done left : List Int} {s6 : Option SV}
include G hc
theorem turn1 (hl : ∀ k ∈ left, 0 ≤ k ∧ k < g.length) (hz : left.length ≤ sizeLine) :
    mSet 6 (mSl2 (mLc (.nm 7) [7] (mVar 5) (mB (mCall F_is_free (mCons (mVar 0) (mCons (mVar 4) (mCons (mVar 7) (mNil)))))) (mVar 7)) none (some (mVar 1))) (enL g c od steps done left s6) =
      .ok .nx (enL g c od steps done left (some (.own (.lst ((pkStep g c.toNat done left).map .int))))) := by
  have h1 : mComp (.nm 7) [7] (mB (mCall F_is_free (mCons (mVar 0) (mCons (mVar 4) (mCons (mVar 7) (mNil)))))) (mVar 7) (left.map .int) (enL g c od steps done left s6) = .ok (.own (.lst ((left.filter (isFr g done)).map .int))) (enL g c od steps done left s6) := by
    refine comp_emb (f := PyData.int) (p := isFr g done) (g := PyData.int) left rfl (fun k m => ?_) hz
    obtain ⟨h0, h1⟩ := hl k m
    refine ⟨[some (.d (gD g)), some (.d (.int c)), some (.d od), some (.own (.lst (steps.map rowD))), some (.own (.dct (doneK done))), some (.own (.lst (left.map .int))), s6, some (.d (.int k))], rfl, ?_, fun _ => ?_⟩
    · simp only [s_B, s_call, s_cons, s_frz, s_var, List.getElem?_cons_zero, List.getElem?_cons_succ, s_nil, s_lent_d, s_lent_bor, if_true, s_looksA_cons, s_looksA_nil, s_lookA_d, s_lookA_bor, doneK_at, free_ok G h0 h1, flat]
    · simp only [s_keep, s_var, List.getElem?_cons_zero, List.getElem?_cons_succ]
  have h2 : mfrz (mLc (.nm 7) [7] (mVar 5) (mB (mCall F_is_free (mCons (mVar 0) (mCons (mVar 4) (mCons (mVar 7) (mNil)))))) (mVar 7)) (enL g c od steps done left s6) = .ok (.d (.list ((left.filter (isFr g done)).map .int))) (enL g c od steps done left s6) := by
    have e : ([7] : List Nat).contains 5 = false := rfl
    rw [s_frz, s_lc, s_frz, s_var]
    simp only [List.getElem?_cons_zero, List.getElem?_cons_succ, e, Bool.false_eq_true, if_false, h1]
  have h3 : mfrz (mVar 1) (enL g c od steps done left s6) = .ok (.d (.int c)) (enL g c od steps done left s6) := by
    simp only [s_frz, s_var, List.getElem?_cons_zero, List.getElem?_cons_succ]
  rw [s_set, s_slH h2 h3 rfl]
  rw [s_dSl_l]
  dsimp only
  rw [cut_take _ hc, ← List.map_take]
  rfl
theorem turn2 {st : List Int} (nd : st.Nodup) (hz : steps.length < sizeLine) :
    mAppend 3 (mCallD (d1 dTuple) (mCons (mCallD (d1 dSorted) (mCons (mVar 6) (mNil))) (mNil))) (enL g c od steps done left (some (.own (.lst (st.map .int))))) = .ok .nx (enL g c od (steps ++ [sortI st]) done left (some (.own (.lst (st.map .int))))) := by
  have hl : (steps.map rowD).length < sizeLine := by rw [List.length_map]; exact hz
  simp only [s_append, s_mut, List.getElem?_cons_zero, List.getElem?_cons_succ, s_keep, s_callD, s_cons, s_frz, s_var, s_nil, s_lent_d, s_lent_bor, if_true, s_looks_cons, s_looks_nil, s_look_d, s_look_bor, s_d1, s_dSorted, sortD_ints, s_dTuple_l, s_pure, s_fapp, hl, sortInts_sortI nd]
  have e : (steps ++ [sortI st]).map rowD = steps.map rowD ++ [rowD (sortI st)] := by rw [List.map_append]; rfl
  dsimp only [enL]
  rw [e]
  rfl
theorem turn3 {st : List Int} (nd : (done ++ st).Nodup) (hz : done.length + st.length ≤ sizeLine) :
    mUpd 4 (mDc (.nm 7) [7] (mVar 6) (mYes) (mVar 7) (mC (.bool true))) (enL g c od steps done left (some (.own (.lst (st.map .int))))) = .ok .nx (enL g c od steps (done ++ st) left (some (.own (.lst (st.map .int))))) := by
  have e : ([7] : List Nat).contains 6 = false := rfl
  have h1 : mDcGo (.nm 7) [7] mYes (mVar 7) (mC (.bool true)) (st.map .int) (enL g c od steps done left (some (.own (.lst (st.map .int))))) = .ok (.own (.dct (doneK st))) (enL g c od steps done left (some (.own (.lst (st.map .int))))) := by
    have z := dcGo_done (mk := mVar 7) (mv := mC (.bool true)) (tg := .nm 7) (en0 := wipeEn (enL g c od steps done left (some (.own (.lst (st.map .int))))) [7]) (fun k => ⟨[some (.d (gD g)), some (.d (.int c)), some (.d od), some (.own (.lst (steps.map rowD))), some (.own (.dct (doneK done))), some (.own (.lst (left.map .int))), some (.own (.lst (st.map .int))), some (.d (.int k))], rfl, by simp only [s_keep, s_var, List.getElem?_cons_zero, List.getElem?_cons_succ], by simp only [s_keep, s_c]⟩) st [] (by rw [List.nil_append]; exact (List.nodup_append.mp nd).2.1) (by simp; omega)
    rw [List.nil_append] at z
    exact dc_ok rfl z
  have hl : (doneK done).length + (doneK st).length ≤ sizeLine := by
    unfold doneK
    rw [List.length_map, List.length_map]
    exact hz
  have hm : mDc (.nm 7) [7] (mVar 6) (mYes) (mVar 7) (mC (.bool true)) (enL g c od steps done left (some (.own (.lst (st.map .int))))) = .ok (.own (.dct (doneK st))) (enL g c od steps done left (some (.own (.lst (st.map .int))))) := by
    rw [s_dc, s_frz, s_var]
    simp only [List.getElem?_cons_zero, List.getElem?_cons_succ, e, Bool.false_eq_true, if_false, h1]
  rw [s_upd]
  simp only [List.getElem?_cons_zero, List.getElem?_cons_succ, hm, hl, if_true, merge_done _ _ nd]
  rfl
theorem turn4 {st : List Int} {s6 : Option SV} (hz : left.length ≤ sizeLine) :
    mSet 5 (mLc (.nm 7) [7] (mVar 5) (mB (mOp2 dNinK (mVar 7) (mVar 4))) (mVar 7)) (enL g c od steps done left s6) = .ok .nx (enL g c od steps done (left.filter fun k => !decide (k ∈ done)) s6) := by
  have e : ([7] : List Nat).contains 5 = false := rfl
  have h1 : mComp (.nm 7) [7] (mB (mOp2 dNinK (mVar 7) (mVar 4))) (mVar 7) (left.map .int) (enL g c od steps done left s6) = .ok (.own (.lst ((left.filter fun k => !decide (k ∈ done)).map .int))) (enL g c od steps done left s6) := by
    refine comp_emb (f := PyData.int) (p := fun k => !decide (k ∈ done)) (g := PyData.int) left rfl (fun k m => ?_) hz
    refine ⟨[some (.d (gD g)), some (.d (.int c)), some (.d od), some (.own (.lst (steps.map rowD))), some (.own (.dct (doneK done))), some (.own (.lst (left.map .int))), s6, some (.d (.int k))], rfl, ?_, fun _ => ?_⟩
    · simp only [s_B, s_op2, s_frz, s_var, List.getElem?_cons_zero, List.getElem?_cons_succ, s_look_d, s_look_bor, s_dNinK, inK_done]
    · simp only [s_keep, s_var, List.getElem?_cons_zero, List.getElem?_cons_succ]
  rw [s_set, s_lc, s_frz, s_var]
  simp only [List.getElem?_cons_zero, List.getElem?_cons_succ, e, Bool.false_eq_true, if_false, h1]
  rfl
end
/-- the loop, from any state that keeps what it keeps -/
theorem loopL {g : Gr} (G : GOk g) {c : Int} (hc : 1 ≤ c) {od : D} {order : List Int} (O : Ord g.length order) : ∀ (m : Nat) (done : List Int) (steps : List (List Int)) (s6 : Option SV), done.Nodup → (∀ k ∈ done, k ∈ order) → (order.filter fun k => !decide (k ∈ done)).length < m → steps.length + m ≤ 1000 →
    ∃ done' s6', whGo (mTru (mVar 5)) bodyL m (enL g c od steps done (order.filter fun k => !decide (k ∈ done)) s6) = .ok .nx (enL g c od (steps ++ pk g c.toNat m done (order.filter fun k => !decide (k ∈ done))) done' [] s6') := by
  intro m
  induction m with
  | zero => intro done steps s6 _ _ h _; omega
  | succ m ih =>
    intro done steps s6 nd sub hlt hs
    have hz := sizeLine_ge
    have hol := O.len
    have hg := G.few
    have hll : (order.filter fun k => !decide (k ∈ done)).length ≤ order.length := List.length_filter_le _ _
    by_cases e : (order.filter fun k => !decide (k ∈ done)) = []
    · refine ⟨done, s6, ?_⟩
      rw [e, pk, if_pos rfl, List.append_nil]
      refine wh_end ?_
      simp only [s_tru, s_frz, s_var, List.getElem?_cons_zero, List.getElem?_cons_succ, s_look_bor, s_tru_l, List.map_nil, List.isEmpty_nil, Bool.not_true]
    · have hst := step_some (c := c.toNat) G O (by omega) e
      have hsub : ∀ k ∈ pkStep g c.toNat done (order.filter fun k => !decide (k ∈ done)), k ∈ order.filter fun k => !decide (k ∈ done) := fun k mk => (step_sub mk).1
      have hnd : (pkStep g c.toNat done (order.filter fun k => !decide (k ∈ done))).Nodup := step_nodup (O.nd.filter _)
      have hlow : ∀ k ∈ order.filter fun k => !decide (k ∈ done), 0 ≤ k ∧ k < g.length := fun k mk => (O.mem k).mp (List.mem_filter.mp mk).1
      have hless := left_less hst hsub
      have hnd2 : (done ++ pkStep g c.toNat done (order.filter fun k => !decide (k ∈ done))).Nodup := List.nodup_append.mpr ⟨nd, hnd, fun a ma b mb => by
        rintro rfl
        have := (List.mem_filter.mp (hsub a mb)).2
        simp [ma] at this⟩
      have hdl : done.length ≤ 62 := by
        have p : done.length ≤ order.length := by
          have s1 : (order.filter fun k => decide (k ∈ done)).Perm done := (List.perm_ext_iff_of_nodup (O.nd.filter _) nd).mpr fun k => by
            rw [List.mem_filter, decide_eq_true_eq]
            exact ⟨fun h => h.2, fun h => ⟨sub k h, h⟩⟩
          rw [← s1.length_eq]
          exact List.length_filter_le _ _
        omega
      have hpl : (pkStep g c.toNat done (order.filter fun k => !decide (k ∈ done))).length ≤ 62 := by
        unfold pkStep
        rw [List.length_take]
        have : ((order.filter fun k => !decide (k ∈ done)).filter (isFr g done)).length ≤ _ := List.length_filter_le _ _
        omega
      obtain ⟨done', s6', hr⟩ := ih (done ++ pkStep g c.toNat done (order.filter fun k => !decide (k ∈ done))) (steps ++ [sortI (pkStep g c.toNat done (order.filter fun k => !decide (k ∈ done)))]) (some (.own (.lst ((pkStep g c.toNat done (order.filter fun k => !decide (k ∈ done))).map .int)))) hnd2
        (fun k mk => (List.mem_append.mp mk).elim (sub k) fun mk => (List.mem_filter.mp (hsub k mk)).1) (by omega) (by simp; omega)
      refine ⟨done', s6', ?_⟩
      have ht : mTru (mVar 5) (enL g c od steps done (order.filter fun k => !decide (k ∈ done)) s6) = .ok true (enL g c od steps done (order.filter fun k => !decide (k ∈ done)) s6) := by
        have e2 : ((order.filter fun k => !decide (k ∈ done)).map PyData.int).isEmpty = false := by
          rw [List.isEmpty_eq_false_iff]
          intro z
          exact e (List.map_eq_nil_iff.mp z)
        simp only [s_tru, s_frz, s_var, List.getElem?_cons_zero, List.getElem?_cons_succ, s_look_bor, s_tru_l, e2, Bool.not_false]
      have hb : bodyL (enL g c od steps done (order.filter fun k => !decide (k ∈ done)) s6) = .ok .nx (enL g c od (steps ++ [sortI (pkStep g c.toNat done (order.filter fun k => !decide (k ∈ done)))]) (done ++ pkStep g c.toNat done (order.filter fun k => !decide (k ∈ done))) (order.filter fun k => !decide (k ∈ done ++ pkStep g c.toNat done (order.filter fun k => !decide (k ∈ done)))) (some (.own (.lst ((pkStep g c.toNat done (order.filter fun k => !decide (k ∈ done))).map .int))))) := by
        unfold bodyL
        rw [s_seq, turn1 G (by omega) hlow (by omega)]
        dsimp only
        rw [s_seq, turn2 G (by omega) hnd (by omega)]
        dsimp only
        rw [s_seq, turn3 G (by omega) hnd2 (by omega)]
        dsimp only
        rw [turn4 (st := []) G (by omega) (by omega), left_next]
      rw [wh_step ht hb, hr, pk, if_neg e, left_next, List.append_assoc]
      rfl
theorem filter_none (o : List Int) : (o.filter fun k => !decide (k ∈ ([] : List Int))) = o := List.filter_eq_self.mpr fun k _ => by simp
theorem listed_ok {g : Gr} (G : GOk g) {c : Int} (hc : 1 ≤ c) {od : D} {order : List Int} (hod : od = .list (order.map .int) ∨ od = .tuple (order.map .int)) (O : Ord g.length order) : F_listed [gD g, .int c, od] = .ok (.d (.tuple ((pk g c.toNat 64 [] order).map rowD))) [] := by
  have hol := O.len
  have hg := G.few
  obtain ⟨done', s6', hr⟩ := loopL G hc (od := od) O 64 [] [] none (by simp) (fun k m => by cases m) (by rw [filter_none]; omega) (by simp)
  rw [filter_none, List.nil_append] at hr
  refine run_ok rfl (e := enL g c od (pk g c.toNat 64 [] order) done' [] s6') ?_
  unfold m_listed
  have h0 : [gD g, PyData.int c, od].map (fun d => some (SV.d d)) ++ List.replicate (8 - 3) none = [some (.d (gD g)), some (.d (.int c)), some (.d od), none, none, none, none, none] := rfl
  rw [h0]
  have h1 : mExpr (mCall F_check_graph (mCons (mVar 0) (mNil))) [some (.d (gD g)), some (.d (.int c)), some (.d od), none, none, none, none, none] = .ok .nx [some (.d (gD g)), some (.d (.int c)), some (.d od), none, none, none, none, none] := by
    simp only [s_expr, s_call, s_cons, s_frz, s_var, List.getElem?_cons_zero, List.getElem?_cons_succ, s_nil, s_lent_d, if_true, s_looksA_cons, s_looksA_nil, s_lookA_d, check_ok G, flat]
  have h2 : mSet 5 (mCallD (d1 dList) (mCons (mVar 2) (mNil))) [some (.d (gD g)), some (.d (.int c)), some (.d od), some (.own (.lst [])), some (.own (.dct [])), none, none, none] = .ok .nx (enL g c od [] [] order none) := by
    rcases hod with rfl | rfl
    all_goals
      simp only [s_set, s_callD, s_cons, s_frz, s_var, List.getElem?_cons_zero, List.getElem?_cons_succ, s_nil, s_lent_d, if_true, s_looks_cons, s_looks_nil, s_look_d, s_d1, s_dList_l, s_dList_t, s_pure]
      rfl
  rw [s_seq, h1]
  dsimp only
  rw [s_seq]
  have h3 : mSet 3 (mLst (mNil)) [some (.d (gD g)), some (.d (.int c)), some (.d od), none, none, none, none, none] = .ok .nx [some (.d (gD g)), some (.d (.int c)), some (.d od), some (.own (.lst [])), none, none, none, none] := by
    simp only [s_set, s_lst, s_nil, s_looks_nil, List.length_nil, List.all_nil, Nat.zero_le, and_self, if_true]
    rfl
  rw [h3]
  dsimp only
  rw [s_seq]
  have h4 : mSet 4 (mpure (.own (.dct []))) [some (.d (gD g)), some (.d (.int c)), some (.d od), some (.own (.lst [])), none, none, none, none] = .ok .nx [some (.d (gD g)), some (.d (.int c)), some (.d od), some (.own (.lst [])), some (.own (.dct [])), none, none, none] := rfl
  rw [h4]
  dsimp only
  rw [s_seq, h2]
  dsimp only
  rw [s_seq]
  unfold mWhile
  rw [hr]
  dsimp only
  simp only [s_ret, s_callD, s_cons, s_frz, s_var, List.getElem?_cons_zero, List.getElem?_cons_succ, s_nil, s_lent_bor, if_true, s_looks_cons, s_looks_nil, s_look_bor, s_d1, s_dTuple_l, s_pure]
end KG

namespace L2
open PySem PySem.Spec PyProof.Rows
theorem s_dSl_s {en : En} (ns : List Int) (lo hi : Option Int) : dSl (scrD ns) lo hi en = .ok (.own (.lst (L2.cutD (ns.map .int) lo hi))) en := rfl
theorem cut_map {α : Type} (f : α → D) (xs : List α) (lo hi : Option Int) : L2.cutD (xs.map f) lo hi = ((xs.drop (HT.sIx xs.length 0 lo)).take (HT.sIx xs.length xs.length hi - HT.sIx xs.length 0 lo)).map f := by
  unfold L2.cutD
  rw [List.length_map, List.map_take, List.map_drop]
theorem ix_scr_at {ns : List Int} {i : Int} (h0 : 0 ≤ i) (h1 : i < ns.length) : ∃ z : Int, ixD (scrD ns) (.int i) = some (.int z) := by
  have hl : i.toNat < ns.length := by omega
  refine ⟨ns[i.toNat], ?_⟩
  rw [ix_scr]
  exact atI_at h0 (by rw [List.getElem?_map, List.getElem?_eq_getElem hl]; rfl)
/-- what is drawn lies below the bounds -/
structure InB (ds bs : List Int) : Prop where
  len : ds.length = bs.length
  at_ : ∀ (i : Nat) (d b : Int), ds[i]? = some d → bs[i]? = some b → 0 ≤ d ∧ d < b
structure Bnds (bs : List Int) : Prop where
  few : bs.length ≤ 1000
  pos : ∀ b ∈ bs, 0 < b
  lt : ∀ b ∈ bs, b < 18446744073709551616
theorem md (y m : Int) (h : 0 < m) : 0 ≤ y % m ∧ y % m < m := ⟨Int.emod_nonneg _ (by omega), Int.emod_lt_of_pos _ h⟩
end L2
namespace KG
open PySem PySem.Spec PyProof.Rows L2
theorem cell_ok (ns : List Int) {k : Int} (h0 : 0 ≤ k) : ∃ z : Int, F__law_cell [scrD ns, .int k] = .ok (.d (.int z)) [] := by
  by_cases hk : k < ns.length
  · obtain ⟨z, hz⟩ := ix_scr_at h0 hk
    refine ⟨z, run_ok rfl (e := [some (.d (scrD ns)), some (.d (.int k)), none, none]) ?_⟩
    unfold m__law_cell
    simp only [s_seq, s_ifS, s_B, s_op2, s_frz, s_var, List.map_cons, List.map_nil, List.cons_append, List.nil_append, List.getElem?_cons_zero, List.getElem?_cons_succ, s_callD, s_cons, s_nil, s_lent_d, if_true, s_looks_cons, s_looks_nil, s_look_d, s_d1, s_len_scr, s_pure, s_dLt_i, hk, decide_true, s_ret, s_dIx, hz]
    rfl
  · obtain ⟨e', h1, h2⟩ := for_inv (tg := .nm 3) (body := mSet 2 (mOp2 dMod (mCallD (d1 dInt) (mCons (mOp2 dAdd (mOp2 dMulL (mVar 2) (mC (.int 1009))) (mVar 3)) (mNil))) (mC (.int 999983)))) (ds := (ns.take 3).map .int)
      (e := [some (.d (scrD ns)), some (.d (.int k)), some (.d (.int 17)), none])
      (fun _ e => ∃ (z : Int) (s : Option SV), e = [some (.d (scrD ns)), some (.d (.int k)), some (.d (.int z)), s]) (fun i d e hi ⟨z, s, he⟩ => by
        subst he
        rw [List.getElem?_map] at hi
        cases q : (ns.take 3)[i]? with
        | none => rw [q] at hi; cases hi
        | some x =>
          rw [q] at hi
          cases hi
          refine ⟨_, _, rfl, .inl ?_, ⟨(z * 1009 + x) % 999983, some (.d (.int x)), rfl⟩⟩
          simp) ⟨17, none, rfl⟩
    obtain ⟨z, s, he⟩ := h2
    subst he
    refine ⟨z * 64 + k, run_ok rfl (e := [some (.d (scrD ns)), some (.d (.int k)), some (.d (.int z)), s]) ?_⟩
    have hs : mFor (.nm 3) [2] (mSl2 (mVar 0) none (some (mC (.int 3)))) (mSet 2 (mOp2 dMod (mCallD (d1 dInt) (mCons (mOp2 dAdd (mOp2 dMulL (mVar 2) (mC (.int 1009))) (mVar 3)) (mNil))) (mC (.int 999983)))) [some (.d (scrD ns)), some (.d (.int k)), some (.d (.int 17)), none] =
        .ok .nx [some (.d (scrD ns)), some (.d (.int k)), some (.d (.int z)), s] := by
      have h3 : mfrz (mVar 0) [some (.d (scrD ns)), some (.d (.int k)), some (.d (.int 17)), none] = .ok (.d (scrD ns)) [some (.d (scrD ns)), some (.d (.int k)), some (.d (.int 17)), none] := rfl
      have h4 : mfrz (mC (.int 3)) [some (.d (scrD ns)), some (.d (.int k)), some (.d (.int 17)), none] = .ok (.d (.int 3)) [some (.d (scrD ns)), some (.d (.int k)), some (.d (.int 17)), none] := rfl
      rw [s_for, s_frz, s_slH h3 h4 rfl, s_dSl_s, cut_take _ (by omega)]
      dsimp only
      rw [← List.map_take]
      exact h1
    unfold m__law_cell
    have h5 : [scrD ns, PyData.int k].map (fun d => some (SV.d d)) ++ List.replicate (4 - 2) none = [some (.d (scrD ns)), some (.d (.int k)), none, none] := rfl
    rw [h5, s_seq]
    simp only [s_ifS, s_B, s_op2, s_frz, s_var, List.getElem?_cons_zero, List.getElem?_cons_succ, s_callD, s_cons, s_nil, s_lent_d, if_true, s_looks_cons, s_looks_nil, s_look_d, s_d1, s_len_scr, s_pure, s_dLt_i, hk, decide_false, s_nx]
    rw [s_seq]
    have h6 : mSet 2 (mC (.int 17)) [some (.d (scrD ns)), some (.d (.int k)), none, none] = .ok .nx [some (.d (scrD ns)), some (.d (.int k)), some (.d (.int 17)), none] := rfl
    rw [h6]
    dsimp only
    rw [s_seq, hs]
    dsimp only
    simp
end KG

namespace KG
open PySem PySem.Spec PyProof.Rows L2
abbrev enD (cell : Int) (bs : List Int) (rest : Int) (gr : Bool) (ds : List Int) (j mx : Option SV) : En := [some (.d (.int cell)), some (.d (.list (bs.map .int))), some (.d (.int rest)), some (.d (.bool gr)), some (.own (.lst (ds.map .int))), j, mx]
noncomputable abbrev bodyD : M Ct := mIfS (mTru (mVar 3)) (mSeq (mAppend 4 (mOp2 dMod (mCallD (d1 dInt) (mCons (mVar 2) (mNil))) (mOp2 dIx (mVar 1) (mVar 5)))) (mSet 2 (mOp2 dDiv (mVar 2) (mOp2 dIx (mVar 1) (mVar 5))))) (mSeq (mSet 6 (mOp2 dMod (mCallD (d1 dInt) (mCons (mOp2 dAdd (mOp2 dMulL (mVar 2) (mC (.int 48271))) (mOp2 dMulL (mOp2 dAdd (mVar 5) (mC (.int 1))) (mC (.int 69621)))) (mNil))) (mC (.int 2147483647)))) (mSeq (mSet 6 (mOp2 dMod (mCallD (d1 dInt) (mCons (mOp2 dAdd (mOp2 dMulL (mVar 6) (mC (.int 40692))) (mOp2 dMulL (mOp2 dDiv (mVar 6) (mC (.int 3791))) (mOp2 dAdd (mVar 5) (mC (.int 5))))) (mNil))) (mC (.int 2147483399)))) (mAppend 4 (mOp2 dMod (mCallD (d1 dInt) (mCons (mOp2 dDiv (mVar 6) (mC (.int 7))) (mNil))) (mOp2 dIx (mVar 1) (mVar 5))))))
section
variable (cell rest : Int) (bs ds : List Int) (i : Int)
theorem dr1 (mx : Option SV) (b : Int) (hi : atI (bs.map PyData.int) i = some (.int b)) (b0 : 0 < b) (b1 : b < 18446744073709551616) (hs : ds.length < sizeLine) : bodyD (enD cell bs rest true ds (some (.d (.int i))) mx) = .ok .nx (enD cell bs (rest / b) true (ds ++ [rest % b]) (some (.d (.int i))) mx) := by
  simp [hi, b0, b1, hs]
theorem dr2 (mx : Option SV) : mSet 6 (mOp2 dMod (mCallD (d1 dInt) (mCons (mOp2 dAdd (mOp2 dMulL (mVar 2) (mC (.int 48271))) (mOp2 dMulL (mOp2 dAdd (mVar 5) (mC (.int 1))) (mC (.int 69621)))) (mNil))) (mC (.int 2147483647))) (enD cell bs rest false ds (some (.d (.int i))) mx) = .ok .nx (enD cell bs rest false ds (some (.d (.int i))) (some (.d (.int ((rest * 48271 + (i + 1) * 69621) % 2147483647))))) := by
  simp
theorem dr3 (x : Int) (g : x / 3791 < 18446744073709551616 ∧ -18446744073709551616 < x / 3791) : mSet 6 (mOp2 dMod (mCallD (d1 dInt) (mCons (mOp2 dAdd (mOp2 dMulL (mVar 6) (mC (.int 40692))) (mOp2 dMulL (mOp2 dDiv (mVar 6) (mC (.int 3791))) (mOp2 dAdd (mVar 5) (mC (.int 5))))) (mNil))) (mC (.int 2147483399))) (enD cell bs rest false ds (some (.d (.int i))) (some (.d (.int x)))) = .ok .nx (enD cell bs rest false ds (some (.d (.int i))) (some (.d (.int ((x * 40692 + x / 3791 * (i + 5)) % 2147483399))))) := by
  simp [g.1, g.2]
theorem dr4 (x b : Int) (hi : atI (bs.map PyData.int) i = some (.int b)) (b0 : 0 < b) (hs : ds.length < sizeLine) : mAppend 4 (mOp2 dMod (mCallD (d1 dInt) (mCons (mOp2 dDiv (mVar 6) (mC (.int 7))) (mNil))) (mOp2 dIx (mVar 1) (mVar 5))) (enD cell bs rest false ds (some (.d (.int i))) (some (.d (.int x)))) = .ok .nx (enD cell bs rest false (ds ++ [x / 7 % b]) (some (.d (.int i))) (some (.d (.int x)))) := by
  simp [hi, b0, hs]
theorem dr5 (mx : Option SV) (b : Int) (hi : atI (bs.map PyData.int) i = some (.int b)) (b0 : 0 < b) (hs : ds.length < sizeLine) : ∃ x : Int, bodyD (enD cell bs rest false ds (some (.d (.int i))) mx) = .ok .nx (enD cell bs rest false (ds ++ [x / 7 % b]) (some (.d (.int i))) (some (.d (.int x)))) := by
  have t : mTru (mVar 3) (enD cell bs rest false ds (some (.d (.int i))) mx) = .ok false (enD cell bs rest false ds (some (.d (.int i))) mx) := by simp
  have h1 := dr2 cell rest bs ds i mx
  have p1 := md (rest * 48271 + (i + 1) * 69621) 2147483647 (by omega)
  generalize (rest * 48271 + (i + 1) * 69621) % 2147483647 = x1 at h1 p1
  have p2 : x1 / 3791 < 18446744073709551616 ∧ -18446744073709551616 < x1 / 3791 := by omega
  have h2 := dr3 cell rest bs ds i x1 p2
  generalize (x1 * 40692 + x1 / 3791 * (i + 5)) % 2147483399 = x2 at h2
  refine ⟨x2, ?_⟩
  unfold bodyD
  rw [s_ifS, t]
  dsimp only
  rw [s_seq, h1]
  dsimp only
  rw [s_seq, h2]
  dsimp only
  exact dr4 cell rest bs ds i x2 b hi b0 hs
end
theorem turnsD (cell rest : Int) (gr : Bool) (bs : List Int) (B : Bnds bs) : ∃ rest' ds j mx, forGo (.nm 5) none bodyD (rngD 0 bs.length) (enD cell bs rest gr [] none none) = .ok .nx (enD cell bs rest' gr ds j mx) ∧ InB ds bs := by
  obtain ⟨e', h1, rest', ds, j, mx, he, hl, hb⟩ := for_inv (tg := .nm 5) (body := bodyD) (ds := rngD 0 bs.length) (e := enD cell bs rest gr [] none none)
    (fun i e => ∃ (rest' : Int) (ds : List Int) (j mx : Option SV), e = enD cell bs rest' gr ds j mx ∧ ds.length = i ∧ ∀ (i : Nat) (d b : Int), ds[i]? = some d → bs[i]? = some b → 0 ≤ d ∧ d < b) (fun i d e hi ⟨rest', ds, j, mx, he, hl, hb⟩ => by
      obtain ⟨li, rfl⟩ := rng_get hi
      subst he
      rw [Int.zero_add]
      have hbi : bs[i]? = some bs[i] := List.getElem?_eq_getElem li
      have b0 := B.pos _ (List.getElem_mem li)
      have b1 := B.lt _ (List.getElem_mem li)
      have hs : ds.length < sizeLine := by have := sizeLine_ge; have := B.few; omega
      have ha : atI (bs.map PyData.int) (i : Int) = some (.int bs[i]) := atI_at (by omega) (by rw [Int.toNat_natCast, List.getElem?_map, hbi]; rfl)
      have inb : ∀ x, 0 ≤ x → x < bs[i] → ∀ (m : Nat) (d b : Int), (ds ++ [x])[m]? = some d → bs[m]? = some b → 0 ≤ d ∧ d < b := fun x h0 h1 m d b q1 q2 => by
        by_cases hm : m < ds.length
        · rw [List.getElem?_append_left hm] at q1
          exact hb m d b q1 q2
        · rw [List.getElem?_append_right (by omega)] at q1
          have e0 : m - ds.length = 0 := by
            have := (List.getElem?_eq_some_iff.mp q1).1
            simp at this
            omega
          rw [e0] at q1
          have em : m = i := by omega
          subst em
          rw [hbi] at q2
          cases q1
          cases q2
          exact ⟨h0, h1⟩
      cases gr with
      | true =>
        have m1 := md rest' bs[i] b0
        exact ⟨_, _, rfl, .inl (dr1 cell rest' bs ds i mx bs[i] ha b0 b1 hs), rest' / bs[i], ds ++ [rest' % bs[i]], _, mx, rfl, by simp [hl], inb _ m1.1 m1.2⟩
      | false =>
        obtain ⟨x, hx⟩ := dr5 cell rest' bs ds i mx bs[i] ha b0 hs
        have m1 := md (x / 7) bs[i] b0
        exact ⟨_, _, rfl, .inl hx, rest', ds ++ [x / 7 % bs[i]], _, _, rfl, by simp [hl], inb _ m1.1 m1.2⟩) ⟨rest, [], none, none, rfl, rfl, fun m d b q => by simp at q⟩
  subst he
  refine ⟨rest', ds, j, mx, h1, ⟨?_, hb⟩⟩
  rw [hl]
  simp [rngD]
end KG

namespace KG
open PySem PySem.Spec PyProof.Rows L2
theorem draws_def : m__law_draws = (mSeq (mSet 2 (mCallD (d1 dAbs) (mCons (mVar 0) (mNil)))) (mSeq (mSet 3 (mOp2 dGe (mVar 2) (mOp2 dPow (mC (.int 10)) (mC (.int 18))))) (mSeq (mIfS (mTru (mVar 3)) (mSet 2 (mOp2 dSub (mVar 2) (mOp2 dPow (mC (.int 10)) (mC (.int 18))))) (mIfS (mB (mOp2 dLt (mVar 0) (mC (.int 0)))) (mSet 2 (mOp2 dAdd (mVar 2) (mC (.int 500009)))) (mNx))) (mSeq (mSet 4 (mLst (mNil))) (mSeq (mForR1 (.nm 5) (mCons (mCallD (d1 dLen) (mCons (mVar 1) (mNil))) (mNil)) bodyD) (mRet (mVar 4))))))) := rfl
theorem draws_ok (cell : Int) (bs : List Int) (B : Bnds bs) : ∃ ds, F__law_draws [.int cell, .list (bs.map .int)] = .ok (.own (.lst (ds.map .int))) [] ∧ InB ds bs := by
  -- the head: what is left, and whether it is great
  have head : ∃ (rest : Int) (gr : Bool), ∀ (k : M Ct), (mSeq (mSet 2 (mCallD (d1 dAbs) (mCons (mVar 0) (mNil)))) (mSeq (mSet 3 (mOp2 dGe (mVar 2) (mOp2 dPow (mC (.int 10)) (mC (.int 18))))) (mSeq (mIfS (mTru (mVar 3)) (mSet 2 (mOp2 dSub (mVar 2) (mOp2 dPow (mC (.int 10)) (mC (.int 18))))) (mIfS (mB (mOp2 dLt (mVar 0) (mC (.int 0)))) (mSet 2 (mOp2 dAdd (mVar 2) (mC (.int 500009)))) (mNx))) (mSeq (mSet 4 (mLst (mNil))) k))))
      [some (.d (.int cell)), some (.d (.list (bs.map .int))), none, none, none, none, none] = k (enD cell bs rest gr [] none none) := by
    obtain ⟨P, hp⟩ : ∃ P : Int, ∀ e : En, dPow (.int 10) (.int 18) e = .ok (.d (.int P)) e := ⟨_, fun e => by
      rw [s_pow, if_pos (by decide)]⟩
    have hA : mSet 2 (mCallD (d1 dAbs) (mCons (mVar 0) (mNil))) [some (.d (.int cell)), some (.d (.list (bs.map .int))), none, none, none, none, none] = .ok .nx [some (.d (.int cell)), some (.d (.list (bs.map .int))), some (.d (.int (if cell < 0 then -cell else cell))), none, none, none, none] := rfl
    generalize (if cell < 0 then -cell else cell) = r0 at hA
    have hB : mSet 3 (mOp2 dGe (mVar 2) (mOp2 dPow (mC (.int 10)) (mC (.int 18)))) [some (.d (.int cell)), some (.d (.list (bs.map .int))), some (.d (.int r0)), none, none, none, none] = .ok .nx [some (.d (.int cell)), some (.d (.list (bs.map .int))), some (.d (.int r0)), some (.d (.bool (decide (P ≤ r0)))), none, none, none] := by
      simp only [s_set, s_op2, s_frz, s_var, List.getElem?_cons_zero, List.getElem?_cons_succ, s_c, s_look_d, hp, s_dGe_i, s_pure]
      rfl
    have hE : ∀ (r : Int) (gr : Bool), mSet 4 (mLst (mNil)) [some (.d (.int cell)), some (.d (.list (bs.map .int))), some (.d (.int r)), some (.d (.bool gr)), none, none, none] = .ok .nx (enD cell bs r gr [] none none) := fun r gr => by
      simp only [s_set, s_lst, s_nil, s_looks_nil, List.length_nil, List.all_nil, Nat.zero_le, and_self, if_true]
      rfl
    by_cases h1 : P ≤ r0
    · refine ⟨r0 - P, true, fun k => ?_⟩
      have hC : mIfS (mTru (mVar 3)) (mSet 2 (mOp2 dSub (mVar 2) (mOp2 dPow (mC (.int 10)) (mC (.int 18))))) (mIfS (mB (mOp2 dLt (mVar 0) (mC (.int 0)))) (mSet 2 (mOp2 dAdd (mVar 2) (mC (.int 500009)))) (mNx)) [some (.d (.int cell)), some (.d (.list (bs.map .int))), some (.d (.int r0)), some (.d (.bool true)), none, none, none] =
          .ok .nx [some (.d (.int cell)), some (.d (.list (bs.map .int))), some (.d (.int (r0 - P))), some (.d (.bool true)), none, none, none] := by
        simp only [s_ifS, s_tru, s_set, s_op2, s_frz, s_var, List.getElem?_cons_zero, List.getElem?_cons_succ, s_c, s_look_d, hp, s_tru_b, s_sub, s_pure]
        rfl
      rw [s_seq, hA]
      dsimp only
      rw [s_seq, hB, decide_eq_true h1]
      dsimp only
      rw [s_seq, hC]
      dsimp only
      rw [s_seq, hE]
    · by_cases h2 : cell < 0
      · refine ⟨r0 + 500009, false, fun k => ?_⟩
        have hC : mIfS (mTru (mVar 3)) (mSet 2 (mOp2 dSub (mVar 2) (mOp2 dPow (mC (.int 10)) (mC (.int 18))))) (mIfS (mB (mOp2 dLt (mVar 0) (mC (.int 0)))) (mSet 2 (mOp2 dAdd (mVar 2) (mC (.int 500009)))) (mNx)) [some (.d (.int cell)), some (.d (.list (bs.map .int))), some (.d (.int r0)), some (.d (.bool false)), none, none, none] =
            .ok .nx [some (.d (.int cell)), some (.d (.list (bs.map .int))), some (.d (.int (r0 + 500009))), some (.d (.bool false)), none, none, none] := by
          simp only [s_ifS, s_tru, s_B, s_set, s_op2, s_frz, s_var, List.getElem?_cons_zero, List.getElem?_cons_succ, s_c, s_look_d, s_tru_b, s_dLt_i, h2, decide_true, s_dAdd_i, s_pure]
          rfl
        rw [s_seq, hA]
        dsimp only
        rw [s_seq, hB, decide_eq_false h1]
        dsimp only
        rw [s_seq, hC]
        dsimp only
        rw [s_seq, hE]
      · refine ⟨r0, false, fun k => ?_⟩
        have hC : mIfS (mTru (mVar 3)) (mSet 2 (mOp2 dSub (mVar 2) (mOp2 dPow (mC (.int 10)) (mC (.int 18))))) (mIfS (mB (mOp2 dLt (mVar 0) (mC (.int 0)))) (mSet 2 (mOp2 dAdd (mVar 2) (mC (.int 500009)))) (mNx)) [some (.d (.int cell)), some (.d (.list (bs.map .int))), some (.d (.int r0)), some (.d (.bool false)), none, none, none] =
            .ok .nx [some (.d (.int cell)), some (.d (.list (bs.map .int))), some (.d (.int r0)), some (.d (.bool false)), none, none, none] := by
          simp only [s_ifS, s_tru, s_B, s_op2, s_frz, s_var, List.getElem?_cons_zero, List.getElem?_cons_succ, s_c, s_look_d, s_tru_b, s_dLt_i, h2, decide_false, s_nx, s_pure]
        rw [s_seq, hA]
        dsimp only
        rw [s_seq, hB, decide_eq_false h1]
        dsimp only
        rw [s_seq, hC]
        dsimp only
        rw [s_seq, hE]
  obtain ⟨rest, gr, hh⟩ := head
  obtain ⟨rest', ds, j, mx, h1, hb⟩ := turnsD cell rest gr bs B
  refine ⟨ds, ?_, hb⟩
  refine run_bor rfl (e := enD cell bs rest' gr ds j mx) (i := 4) (o := .lst (ds.map .int)) ?_ rfl
  have h5 : [PyData.int cell, PyData.list (bs.map PyData.int)].map (fun d => some (SV.d d)) ++ List.replicate (7 - 2) none = [some (.d (.int cell)), some (.d (.list (bs.map .int))), none, none, none, none, none] := rfl
  have hf : mForR1 (.nm 5) (mCons (mCallD (d1 dLen) (mCons (mVar 1) (mNil))) (mNil)) bodyD (enD cell bs rest gr [] none none) = .ok .nx (enD cell bs rest' gr ds j mx) := by
    rw [forR1_run (j := (bs.length : Int)) (e := enD cell bs rest gr [] none none) _ (by omega) (by have := B.few; omega)]
    · rw [Int.toNat_natCast]
      exact h1
    · simp
  rw [draws_def, h5, hh, seq_ok hf]
  simp only [s_ret, s_var, List.getElem?_cons_zero, List.getElem?_cons_succ]
end KG

namespace L2
open PySem PySem.Spec PyProof.Rows
variable {en : En}
theorem s_insert {i : Nat} {mk me : M SV} {ds : List D} {k : Int} {d : D} (h0 : en[i]? = some (some (.own (.lst ds)))) (h1 : mfrz mk en = .ok (.d (.int k)) en) (h2 : mkeep me en = .ok (.d d) en) (hl : ds.length < sizeLine) (k0 : 0 ≤ k) (k1 : k < 1000000) :
    mInsert i mk me en = .ok .nx (en.set i (some (.own (.lst (ds.take k.toNat ++ [d] ++ ds.drop k.toNat))))) := by
  unfold mInsert
  rw [h0]
  dsimp only
  rw [s_bind, h1]
  dsimp only
  rw [s_bind, h2]
  dsimp only
  rw [s_look_d, h0]
  dsimp only
  rw [if_pos ⟨hl, k0, by omega⟩]
/-- put in where it belongs -/
def insI (row : List Int) (n : Int) : List Int := row.take (row.filter fun x => decide (x < n)).length ++ [n] ++ row.drop (row.filter fun x => decide (x < n)).length
theorem split_asc : ∀ {row : List Int} (n : Int), row.Pairwise (· < ·) → row.take (row.filter fun x => decide (x < n)).length = row.filter (fun x => decide (x < n)) ∧ row.drop (row.filter fun x => decide (x < n)).length = row.filter (fun x => !decide (x < n))
  | [], _, _ => ⟨rfl, rfl⟩
  | x :: r, n, p => by
    have p' := List.pairwise_cons.mp p
    obtain ⟨h1, h2⟩ := split_asc n p'.2
    by_cases h : x < n
    · simp only [List.filter_cons, h, decide_true, if_true, List.length_cons, List.take_succ_cons, List.drop_succ_cons, Bool.not_true, Bool.false_eq_true, if_false, h1, h2]
      exact ⟨trivial, trivial⟩
    · have e : r.filter (fun x => decide (x < n)) = [] := List.filter_eq_nil_iff.mpr fun y m => by
        have := p'.1 y m
        simp
        omega
      have e2 : r.filter (fun x => !decide (x < n)) = r := List.filter_eq_self.mpr fun y m => by
        have := p'.1 y m
        simp
        omega
      simp only [List.filter_cons, h, decide_false, Bool.false_eq_true, if_false, Bool.not_false, if_true, e, e2, List.length_nil, List.take_zero, List.drop_zero]
      exact ⟨trivial, trivial⟩
theorem ins_mem {row : List Int} {n k : Int} : k ∈ insI row n ↔ k = n ∨ k ∈ row := by
  unfold insI
  rw [List.append_assoc, List.mem_append, List.mem_append, List.mem_singleton]
  have e : k ∈ row ↔ k ∈ row.take (row.filter fun x => decide (x < n)).length ∨ k ∈ row.drop (row.filter fun x => decide (x < n)).length := by
    rw [← List.mem_append, List.take_append_drop]
  rw [e]
  constructor
  · rintro (h | h | h)
    · exact .inr (.inl h)
    · exact .inl h
    · exact .inr (.inr h)
  · rintro (h | h | h)
    · exact .inr (.inl h)
    · exact .inl h
    · exact .inr (.inr h)
theorem ins_asc {row : List Int} {n : Int} (p : row.Pairwise (· < ·)) (hn : n ∉ row) : (insI row n).Pairwise (· < ·) := by
  unfold insI
  obtain ⟨h1, h2⟩ := split_asc n p
  rw [h1, h2, List.append_assoc, List.pairwise_append]
  refine ⟨p.filter _, ?_, fun a ma b mb => ?_⟩
  · rw [List.singleton_append, List.pairwise_cons]
    refine ⟨fun b mb => ?_, p.filter _⟩
    obtain ⟨m, h⟩ := List.mem_filter.mp mb
    have h' : ¬ b < n := by simpa using h
    have : b ≠ n := fun e => hn (e ▸ m)
    omega
  · have ha := of_decide_eq_true (List.mem_filter.mp ma).2
    rcases List.mem_append.mp mb with mb | mb
    · rw [List.mem_singleton.mp mb]; exact ha
    · have h' : ¬ b < n := by simpa using (List.mem_filter.mp mb).2
      omega
end L2
namespace KG
open PySem PySem.Spec PyProof.Rows L2
abbrev enG (ns : List Int) (start most : Int) (sh : List Int) (g : Gr) (k : Int) (dr : List Int) (row : List Int) (s8 : Option SV) : En :=
  [some (.d (scrD ns)), some (.d (.int start)), some (.d (.int most)), some (.own (.lst (sh.map .int))), some (.own (.lst (g.map rowD))), some (.d (.int k)), some (.own (.lst (dr.map .int))), some (.own (.lst (row.map .int))), s8, none]
noncomputable abbrev insB : M Ct := mIfS (mAndT (mB (mOp2 dGt (mVar 5) (mC (.int 0)))) (mB (mOp2 dNin (mVar 8) (mVar 7)))) (mInsert 7 (mCallD (d1 dLen) (mCons (mLc (.nm 9) [9] (mVar 7) (mB (mOp2 dLt (mVar 9) (mVar 8))) (mVar 9)) (mNil))) (mVar 8)) (mNx)
section
variable (ns : List Int) (start most : Int) (sh : List Int) (g : Gr) (k : Int) (dr : List Int) (row : List Int)
theorem ins_ok (n : Int) (hr : row.length ≤ 1000) : insB (enG ns start most sh g k dr row (some (.d (.int n)))) = .ok .nx (enG ns start most sh g k dr (if 0 < k ∧ n ∉ row then insI row n else row) (some (.d (.int n)))) := by
  have hz := sizeLine_ge
  unfold insB
  rw [s_ifS]
  have t : mAndT (mB (mOp2 dGt (mVar 5) (mC (.int 0)))) (mB (mOp2 dNin (mVar 8) (mVar 7))) (enG ns start most sh g k dr row (some (.d (.int n)))) = .ok (decide (0 < k ∧ n ∉ row)) (enG ns start most sh g k dr row (some (.d (.int n)))) := by
    by_cases h : 0 < k
    · simp only [s_andT, s_B, s_op2, s_frz, s_var, List.getElem?_cons_zero, List.getElem?_cons_succ, s_c, s_look_d, s_look_bor, s_dGt_i, s_pure, h, decide_true, s_dNin, inD_l, true_and]
      by_cases h2 : n ∈ row <;> simp [h2]
    · simp only [s_andT, s_B, s_op2, s_frz, s_var, List.getElem?_cons_zero, List.getElem?_cons_succ, s_c, s_look_d, s_dGt_i, s_pure, h, decide_false, false_and]
  rw [t]
  by_cases h : 0 < k ∧ n ∉ row
  · rw [decide_eq_true h, if_pos h]
    dsimp only
    have e9 : ([9] : List Nat).contains 7 = false := rfl
    have hcmp : mComp (.nm 9) [9] (mB (mOp2 dLt (mVar 9) (mVar 8))) (mVar 9) (row.map .int) (enG ns start most sh g k dr row (some (.d (.int n)))) = .ok (.own (.lst ((row.filter fun x => decide (x < n)).map .int))) (enG ns start most sh g k dr row (some (.d (.int n)))) := by
      refine comp_emb (f := PyData.int) (p := fun x => decide (x < n)) (g := PyData.int) row rfl (fun x m => ?_) (by omega)
      refine ⟨[some (.d (scrD ns)), some (.d (.int start)), some (.d (.int most)), some (.own (.lst (sh.map .int))), some (.own (.lst (g.map rowD))), some (.d (.int k)), some (.own (.lst (dr.map .int))), some (.own (.lst (row.map .int))), some (.d (.int n)), some (.d (.int x))], rfl, ?_, fun _ => ?_⟩
      · simp only [s_B, s_op2, s_frz, s_var, List.getElem?_cons_zero, List.getElem?_cons_succ, s_look_d, s_dLt_i, s_pure]
      · simp only [s_keep, s_var, List.getElem?_cons_zero, List.getElem?_cons_succ]
    have hk : mfrz (mCallD (d1 dLen) (mCons (mLc (.nm 9) [9] (mVar 7) (mB (mOp2 dLt (mVar 9) (mVar 8))) (mVar 9)) (mNil))) (enG ns start most sh g k dr row (some (.d (.int n)))) = .ok (.d (.int ((row.filter fun x => decide (x < n)).length : Nat))) (enG ns start most sh g k dr row (some (.d (.int n)))) := by
      simp only [s_frz, s_callD, s_cons, s_lc, s_var, List.getElem?_cons_zero, List.getElem?_cons_succ, e9, Bool.false_eq_true, if_false, hcmp, s_nil, s_lent_d, if_true, s_looks_cons, s_looks_nil, s_look_d, s_d1, s_len_l, List.length_map, s_pure]
    have hf : (row.filter fun x => decide (x < n)).length ≤ row.length := List.length_filter_le _ _
    rw [s_insert (ds := row.map .int) (k := ((row.filter fun x => decide (x < n)).length : Nat)) (d := .int n) rfl hk rfl (by rw [List.length_map]; omega) (by omega) (by omega)]
    have e : (row.map PyData.int).take ((row.filter fun x => decide (x < n)).length : Int).toNat ++ [PyData.int n] ++ (row.map PyData.int).drop ((row.filter fun x => decide (x < n)).length : Int).toNat = (insI row n).map .int := by
      rw [Int.toNat_natCast]
      unfold insI
      rw [List.map_append, List.map_append, List.map_take, List.map_drop]
      rfl
    rw [e]
    rfl
  · rw [decide_eq_false h, if_neg h]
    rfl
/-- the inner loop: what is drawn is put in -/
theorem loopG (hk : 0 ≤ k) : ∀ (xs : List Int) (row : List Int) (s8 : Option SV), (0 < k → ∀ x ∈ xs, 0 ≤ x ∧ x < k) → row.Pairwise (· < ·) → (∀ x ∈ row, 0 ≤ x ∧ x < k) → row.length + xs.length ≤ 1000 →
    ∃ row' s8', forGo (.nm 8) none insB (xs.map .int) (enG ns start most sh g k dr row s8) = .ok .nx (enG ns start most sh g k dr row' s8') ∧ row'.Pairwise (· < ·) ∧ ∀ x ∈ row', 0 ≤ x ∧ x < k
  | [], row, s8, _, p, l, _ => ⟨row, s8, for_nil rfl, p, l⟩
  | n :: r, row, s8, h, p, l, hl => by
    have hn := ins_ok ns start most sh g k dr row n (by simp at hl; omega)
    have hlen : (if 0 < k ∧ n ∉ row then insI row n else row).length ≤ row.length + 1 := by
      split
      · unfold insI
        rw [List.length_append, List.length_append, List.length_take, List.length_drop, List.length_singleton]
        omega
      · omega
    obtain ⟨row', s8', h1, h2⟩ := loopG hk r (if 0 < k ∧ n ∉ row then insI row n else row) (some (.d (.int n))) (fun hk x m => h hk x (List.mem_cons_of_mem _ m)) (by
      split
      · rename_i c; exact ins_asc p c.2
      · exact p) (by
      split
      · rename_i c
        intro x m
        rcases ins_mem.mp m with rfl | m
        · exact h c.1 _ List.mem_cons_self
        · exact l x m
      · exact l) (by simp at hl; omega)
    refine ⟨row', s8', ?_, h2⟩
    rw [List.map_cons, for_step rfl rfl hn]
    exact h1
end
end KG

namespace KG
open PySem PySem.Spec PyProof.Rows L2
/-- any environment of the outer loop -/
abbrev enH (ns : List Int) (start most : Int) (sh : List Int) (g : Gr) (s5 s6 s7 s8 : Option SV) : En :=
  [some (.d (scrD ns)), some (.d (.int start)), some (.d (.int most)), some (.own (.lst (sh.map .int))), some (.own (.lst (g.map rowD))), s5, s6, s7, s8, none]
noncomputable abbrev drwM : M Ct := mSet 6 (mCall F__law_draws (mCons (mCall F__law_cell (mCons (mVar 0) (mCons (mOp2 dAdd (mOp2 dAdd (mVar 1) (mC (.int 1))) (mVar 5)) (mNil)))) (mCons (mOp2 dAdd (mLst (mCons (mOp2 dAdd (mC (.int 3)) (mOp2 dIx (mVar 3) (mC (.int 1)))) (mNil))) (mOp2 dMulL (mLst (mCons (mCallD dMax2 (mCons (mC (.int 1)) (mCons (mVar 5) (mNil)))) (mNil))) (mC (.int 3)))) (mNil))))
noncomputable abbrev forM' : M Ct := mFor (.nm 8) [] (mSl2 (mVar 6) (some (mC (.int 1))) (some (mOp2 dAdd (mC (.int 1)) (mCallD dMin2 (mCons (mC (.int 3)) (mCons (mOp2 dIx (mVar 6) (mC (.int 0))) (mNil))))))) insB
noncomputable abbrev bodyG : M Ct := mSeq drwM (mSeq (mSet 7 (mLst (mNil))) (mSeq forM' (mAppend 4 (mCallD (d1 dTuple) (mCons (mVar 7) (mNil))))))
theorem gok_snoc {g : Gr} {r : List Int} (G : GOk g) (hl : g.length < 62) (p : r.Pairwise (· < ·)) (l : ∀ x ∈ r, 0 ≤ x ∧ x < g.length) : GOk (g ++ [r]) where
  few := by simp; omega
  asc := fun x m => by
    rcases List.mem_append.mp m with m | m
    · exact G.asc x m
    · rw [List.mem_singleton.mp m]; exact p
  low := fun i x h => by
    by_cases hi : i < g.length
    · rw [List.getElem?_append_left hi] at h
      exact G.low i x h
    · rw [List.getElem?_append_right (by omega)] at h
      have e0 : i - g.length = 0 := by
        have := (List.getElem?_eq_some_iff.mp h).1
        simp at this
        omega
      rw [e0] at h
      cases h
      have ei : i = g.length := by omega
      subst ei
      exact l
section
variable (ns : List Int) (start most : Int) (sh : List Int) (g : Gr)
theorem drw_ok (s0 : 0 ≤ start) {k : Int} (k0 : 0 ≤ k) (k1 : k ≤ 1000) {b : Int} (hb : sh[1]? = some b) (b0 : 0 ≤ b) (b1 : b ≤ 1000) (s6 s7 s8 : Option SV) : ∃ d0 d1 d2 d3 : Int, drwM (enH ns start most sh g (some (.d (.int k))) s6 s7 s8) = .ok .nx (enH ns start most sh g (some (.d (.int k))) (some (.own (.lst ([d0, d1, d2, d3].map .int)))) s7 s8) ∧
    (0 < k → (0 ≤ d1 ∧ d1 < k) ∧ (0 ≤ d2 ∧ d2 < k) ∧ (0 ≤ d3 ∧ d3 < k)) := by
  have hz := sizeLine_ge
  obtain ⟨z, hzz⟩ := cell_ok ns (k := start + 1 + k) (by omega)
  have hmx : ∃ m : Int, (if k > 1 then k else 1) = m ∧ 0 < m ∧ m ≤ 1000 ∧ (0 < k → m = k) := ⟨_, rfl, by split <;> omega, by split <;> omega, fun h => by split <;> omega⟩
  obtain ⟨m, em, m0, m1, mk⟩ := hmx
  have B : Bnds [3 + b, m, m, m] := ⟨by simp, fun x hx => by simp at hx; omega, fun x hx => by simp at hx; omega⟩
  obtain ⟨ds, hd, ib⟩ := draws_ok z [3 + b, m, m, m] B
  obtain ⟨hl, ha⟩ := ib
  match ds, hl with
  | [d0, d1, d2, d3], _ =>
    refine ⟨d0, d1, d2, d3, ?_, fun h => ?_⟩
    · have e1 : atI (sh.map PyData.int) 1 = some (.int b) := atI_at (by omega) (by show (sh.map PyData.int)[1]? = _; rw [List.getElem?_map, hb]; rfl)
      have hA : mfrz (mCall F__law_cell (mCons (mVar 0) (mCons (mOp2 dAdd (mOp2 dAdd (mVar 1) (mC (.int 1))) (mVar 5)) (mNil)))) (enH ns start most sh g (some (.d (.int k))) s6 s7 s8) = .ok (.d (.int z)) (enH ns start most sh g (some (.d (.int k))) s6 s7 s8) := by
        simp only [s_frz, s_call, s_cons, s_op2, s_var, List.getElem?_cons_zero, List.getElem?_cons_succ, s_c, s_look_d, s_dAdd_i, s_pure, s_nil, s_lent_d, if_true, s_looksA_cons, s_looksA_nil, s_lookA_d, hzz, flat]
      have hB : mfrz (mOp2 dAdd (mLst (mCons (mOp2 dAdd (mC (.int 3)) (mOp2 dIx (mVar 3) (mC (.int 1)))) (mNil))) (mOp2 dMulL (mLst (mCons (mCallD dMax2 (mCons (mC (.int 1)) (mCons (mVar 5) (mNil)))) (mNil))) (mC (.int 3)))) (enH ns start most sh g (some (.d (.int k))) s6 s7 s8) = .ok (.d (.list ([3 + b, m, m, m].map .int))) (enH ns start most sh g (some (.d (.int k))) s6 s7 s8) := by
        have h1 : mfrz (mLst (mCons (mOp2 dAdd (mC (.int 3)) (mOp2 dIx (mVar 3) (mC (.int 1)))) (mNil))) (enH ns start most sh g (some (.d (.int k))) s6 s7 s8) = .ok (.d (.list [.int (3 + b)])) (enH ns start most sh g (some (.d (.int k))) s6 s7 s8) := by
          have q : ([PyData.int (3 + b)] : List D).length ≤ sizeLine := by simp; omega
          simp only [s_frz, s_lst, s_cons, s_op2, s_c, s_var, List.getElem?_cons_zero, List.getElem?_cons_succ, s_look_d, s_look_bor, s_dIx, s_ix_l, e1, s_dAdd_i, s_pure, s_nil, s_lent_d, if_true, s_looks_cons, s_looks_nil, q, List.all_cons, List.all_nil, Bool.and_self, and_self]
        have h2 : mfrz (mOp2 dMulL (mLst (mCons (mCallD dMax2 (mCons (mC (.int 1)) (mCons (mVar 5) (mNil)))) (mNil))) (mC (.int 3))) (enH ns start most sh g (some (.d (.int k))) s6 s7 s8) = .ok (.d (.list [.int m, .int m, .int m])) (enH ns start most sh g (some (.d (.int k))) s6 s7 s8) := by
          have q : ([PyData.int m] : List D).length ≤ sizeLine := by simp; omega
          have q2 : (-(2 ^ 63) ≤ (3 : Int) ∧ (3 : Int) < 2 ^ 63) ∧ ([PyData.int m] : List D).length * (3 : Int).toNat ≤ sizeLine := ⟨by omega, by show 1 * 3 ≤ _; omega⟩
          have h3 : mfrz (mLst (mCons (mCallD dMax2 (mCons (mC (.int 1)) (mCons (mVar 5) (mNil)))) (mNil))) (enH ns start most sh g (some (.d (.int k))) s6 s7 s8) = .ok (.d (.list [.int m])) (enH ns start most sh g (some (.d (.int k))) s6 s7 s8) := by
            simp only [s_frz, s_lst, s_cons, s_callD, s_c, s_var, List.getElem?_cons_zero, List.getElem?_cons_succ, s_look_d, s_max2, em, s_pure, s_nil, s_lent_d, if_true, s_looks_cons, s_looks_nil, q, List.all_cons, List.all_nil, Bool.and_self, and_self]
          rw [s_frz, s_op2, h3]
          dsimp only
          rw [show mfrz (mC (.int 3)) (enH ns start most sh g (some (.d (.int k))) s6 s7 s8) = .ok (.d (.int 3)) (enH ns start most sh g (some (.d (.int k))) s6 s7 s8) from rfl]
          dsimp only
          rw [s_look_d, s_look_d]
          dsimp only
          rw [s_mulL, if_pos q2]
          rfl
        rw [s_frz, s_op2, h1]
        dsimp only
        rw [h2]
        dsimp only
        rw [s_look_d, s_look_d]
        dsimp only
        rw [s_add_l, if_pos (by simp; omega)]
        rfl
      show mSet 6 (mCall F__law_draws _) _ = _
      rw [s_set, s_call, s_cons, hA]
      dsimp only
      rw [s_cons, hB]
      dsimp only
      have hfl : flatO (.lst ([d0, d1, d2, d3].map .int)) = true := rfl
      simp only [s_nil, s_lent_d, if_true, s_looksA_cons, s_looksA_nil, s_lookA_d, hd, hfl]
      rfl
    · have a1 := ha 1 d1 m rfl rfl
      have a2 := ha 2 d2 m rfl rfl
      have a3 := ha 3 d3 m rfl rfl
      rw [mk h] at a1 a2 a3
      exact ⟨a1, a2, a3⟩
theorem forM_ok {k : Int} (k0 : 0 ≤ k) (d0 d1 d2 d3 : Int) (hd : 0 < k → (0 ≤ d1 ∧ d1 < k) ∧ (0 ≤ d2 ∧ d2 < k) ∧ (0 ≤ d3 ∧ d3 < k)) (s8 : Option SV) : ∃ row s8', forM' (enG ns start most sh g k [d0, d1, d2, d3] [] s8) = .ok .nx (enG ns start most sh g k [d0, d1, d2, d3] row s8') ∧ row.Pairwise (· < ·) ∧ ∀ x ∈ row, 0 ≤ x ∧ x < k := by
  obtain ⟨j, hj⟩ : ∃ j : Int, mfrz (mOp2 dAdd (mC (.int 1)) (mCallD dMin2 (mCons (mC (.int 3)) (mCons (mOp2 dIx (mVar 6) (mC (.int 0))) (mNil))))) (enG ns start most sh g k [d0, d1, d2, d3] [] s8) = .ok (.d (.int j)) (enG ns start most sh g k [d0, d1, d2, d3] [] s8) := by
    refine ⟨1 + (if d0 < 3 then d0 else 3), ?_⟩
    have e1 : atI ([d0, d1, d2, d3].map PyData.int) 0 = some (.int d0) := rfl
    simp only [s_frz, s_op2, s_c, s_callD, s_cons, s_var, List.getElem?_cons_zero, List.getElem?_cons_succ, s_look_d, s_look_bor, s_dIx, s_ix_l, e1, s_nil, s_lent_d, if_true, s_looks_cons, s_looks_nil, s_min2, s_dAdd_i, s_pure]
  have h1 : mfrz (mVar 6) (enG ns start most sh g k [d0, d1, d2, d3] [] s8) = .ok (.bor 6) (enG ns start most sh g k [d0, d1, d2, d3] [] s8) := rfl
  have h2 : mfrz (mC (.int 1)) (enG ns start most sh g k [d0, d1, d2, d3] [] s8) = .ok (.d (.int 1)) (enG ns start most sh g k [d0, d1, d2, d3] [] s8) := rfl
  have sub : ∀ x ∈ ([d0, d1, d2, d3].drop (HT.sIx 4 0 (some 1))).take (HT.sIx 4 4 (some j) - HT.sIx 4 0 (some 1)), x = d1 ∨ x = d2 ∨ x = d3 := fun x m => by
    have m' : x ∈ [d0, d1, d2, d3].drop 1 := List.mem_of_mem_take m
    simpa using m'
  have hlen : (([d0, d1, d2, d3].drop (HT.sIx 4 0 (some 1))).take (HT.sIx 4 4 (some j) - HT.sIx 4 0 (some 1))).length ≤ 4 := by
    rw [List.length_take, List.length_drop]
    simp
    omega
  obtain ⟨row', s8', q1, q2⟩ := loopG ns start most sh g k [d0, d1, d2, d3] k0 (([d0, d1, d2, d3].drop (HT.sIx 4 0 (some 1))).take (HT.sIx 4 4 (some j) - HT.sIx 4 0 (some 1))) [] s8 (fun hk x m => by
    obtain ⟨a1, a2, a3⟩ := hd hk
    rcases sub x m with rfl | rfl | rfl
    · exact a1
    · exact a2
    · exact a3) List.Pairwise.nil (fun x m => by cases m) (by simp only [List.length_nil]; omega)
  refine ⟨row', s8', ?_, q2⟩
  show mFor (.nm 8) [] (mSl2 (mVar 6) (some (mC (.int 1))) (some (mOp2 dAdd (mC (.int 1)) (mCallD dMin2 (mCons (mC (.int 3)) (mCons (mOp2 dIx (mVar 6) (mC (.int 0))) (mNil))))))) insB _ = _
  rw [s_for, s_frz, s_slLH h1 h2 hj rfl, s_dSl_l, cut_map]
  exact q1
theorem turnG (s0 : 0 ≤ start) {b : Int} (hb : sh[1]? = some b) (b0 : 0 ≤ b) (b1 : b ≤ 1000) (G : GOk g) (hl : g.length < 62) (s6 s7 s8 : Option SV) :
    ∃ (g' : Gr) (s6' s7' s8' : Option SV), bodyG (enH ns start most sh g (some (.d (.int g.length))) s6 s7 s8) = .ok .nx (enH ns start most sh g' (some (.d (.int g.length))) s6' s7' s8') ∧ GOk g' ∧ g'.length = g.length + 1 := by
  have hz := sizeLine_ge
  obtain ⟨x0, x1, x2, x3, h1, hd⟩ := drw_ok ns start most sh g s0 (k := (g.length : Int)) (by omega) (by omega) hb b0 b1 s6 s7 s8
  obtain ⟨row, s8', h2, p, l⟩ := forM_ok ns start most sh g (k := (g.length : Int)) (by omega) x0 x1 x2 x3 hd s8
  refine ⟨g ++ [row], some (.own (.lst ([x0, x1, x2, x3].map .int))), some (.own (.lst (row.map .int))), s8', ?_, gok_snoc G hl p l, by simp⟩
  have h3 : mSet 7 (mLst (mNil)) (enH ns start most sh g (some (.d (.int g.length))) (some (.own (.lst ([x0, x1, x2, x3].map .int)))) s7 s8) = .ok .nx (enG ns start most sh g g.length [x0, x1, x2, x3] [] s8) := by
    simp only [s_set, s_lst, s_nil, s_looks_nil, List.length_nil, List.all_nil, Nat.zero_le, and_self, if_true]
    rfl
  have hgl : (g.map rowD).length < sizeLine := by rw [List.length_map]; omega
  have h4 : mAppend 4 (mCallD (d1 dTuple) (mCons (mVar 7) (mNil))) (enG ns start most sh g g.length [x0, x1, x2, x3] row s8') = .ok .nx (enH ns start most sh (g ++ [row]) (some (.d (.int g.length))) (some (.own (.lst ([x0, x1, x2, x3].map .int)))) (some (.own (.lst (row.map .int)))) s8') := by
    simp only [s_append, s_mut, List.getElem?_cons_zero, List.getElem?_cons_succ, s_keep, s_callD, s_cons, s_frz, s_var, s_nil, s_lent_bor, if_true, s_looks_cons, s_looks_nil, s_look_bor, s_d1, s_dTuple_l, s_pure, s_fapp, hgl]
    have e : (g ++ [row]).map rowD = g.map rowD ++ [rowD row] := by rw [List.map_append]; rfl
    dsimp only [enH]
    rw [e]
    rfl
  unfold bodyG
  rw [seq_ok h1, seq_ok h3, seq_ok h2, h4]
end
theorem graph_def : m__law_graph = mSeq (mSet 3 (mCall F__law_draws (mCons (mCall F__law_cell (mCons (mVar 0) (mCons (mVar 1) (mNil)))) (mCons (mLst (mCons (mOp2 dAdd (mVar 2) (mC (.int 1))) (mCons (mC (.int 4)) (mNil)))) (mNil))))) (mSeq (mSet 4 (mLst (mNil))) (mSeq (mForR1 (.nm 5) (mCons (mOp2 dIx (mVar 3) (mC (.int 0))) (mNil)) bodyG) (mRet (mCallD (d1 dTuple) (mCons (mVar 4) (mNil)))))) := rfl
theorem gok_nil : GOk [] := ⟨by simp, (fun r m => by cases m), (fun i r h => by simp at h)⟩
theorem graph_drawn (ns : List Int) {start most : Int} (s0 : 0 ≤ start) (m0 : 0 ≤ most) (m1 : most ≤ 62) : ∃ g, F__law_graph [scrD ns, .int start, .int most] = .ok (.d (gD g)) [] ∧ GOk g ∧ (g.length : Int) ≤ most := by
  have hz := sizeLine_ge
  obtain ⟨z, hzz⟩ := cell_ok ns s0
  have B : Bnds [most + 1, 4] := ⟨by simp, fun x hx => by simp at hx; omega, fun x hx => by simp at hx; omega⟩
  obtain ⟨sh, hd, hl, ha⟩ := draws_ok z [most + 1, 4] B
  match sh, hl with
  | [a, b], _ =>
    have ha0 := ha 0 a (most + 1) rfl rfl
    have hb0 := ha 1 b 4 rfl rfl
    have h5 : [scrD ns, PyData.int start, PyData.int most].map (fun d => some (SV.d d)) ++ List.replicate (10 - 3) none = [some (.d (scrD ns)), some (.d (.int start)), some (.d (.int most)), none, none, none, none, none, none, none] := rfl
    have h1 : mSet 3 (mCall F__law_draws (mCons (mCall F__law_cell (mCons (mVar 0) (mCons (mVar 1) (mNil)))) (mCons (mLst (mCons (mOp2 dAdd (mVar 2) (mC (.int 1))) (mCons (mC (.int 4)) (mNil)))) (mNil)))) [some (.d (scrD ns)), some (.d (.int start)), some (.d (.int most)), none, none, none, none, none, none, none] =
        .ok .nx [some (.d (scrD ns)), some (.d (.int start)), some (.d (.int most)), some (.own (.lst ([a, b].map .int))), none, none, none, none, none, none] := by
      have hA : mfrz (mCall F__law_cell (mCons (mVar 0) (mCons (mVar 1) (mNil)))) [some (.d (scrD ns)), some (.d (.int start)), some (.d (.int most)), none, none, none, none, none, none, none] = .ok (.d (.int z)) [some (.d (scrD ns)), some (.d (.int start)), some (.d (.int most)), none, none, none, none, none, none, none] := by
        simp only [s_frz, s_call, s_cons, s_var, List.getElem?_cons_zero, List.getElem?_cons_succ, s_nil, s_lent_d, if_true, s_looksA_cons, s_looksA_nil, s_lookA_d, hzz, flat]
      have hB : mfrz (mLst (mCons (mOp2 dAdd (mVar 2) (mC (.int 1))) (mCons (mC (.int 4)) (mNil)))) [some (.d (scrD ns)), some (.d (.int start)), some (.d (.int most)), none, none, none, none, none, none, none] = .ok (.d (.list ([most + 1, 4].map .int))) [some (.d (scrD ns)), some (.d (.int start)), some (.d (.int most)), none, none, none, none, none, none, none] := by
        have q : ([PyData.int (most + 1), PyData.int 4] : List D).length ≤ sizeLine := by simp; omega
        simp only [s_frz, s_lst, s_cons, s_op2, s_c, s_var, List.getElem?_cons_zero, List.getElem?_cons_succ, s_look_d, s_dAdd_i, s_pure, s_nil, s_lent_d, if_true, s_looks_cons, s_looks_nil, q, List.all_cons, List.all_nil, Bool.and_self, and_self]
        rfl
      rw [s_set, s_call, s_cons, hA]
      dsimp only
      rw [s_cons, hB]
      dsimp only
      have hfl : flatO (.lst ([a, b].map .int)) = true := rfl
      simp only [s_nil, s_lent_d, if_true, s_looksA_cons, s_looksA_nil, s_lookA_d, hd, hfl]
      rfl
    have h2 : mSet 4 (mLst (mNil)) [some (.d (scrD ns)), some (.d (.int start)), some (.d (.int most)), some (.own (.lst ([a, b].map .int))), none, none, none, none, none, none] = .ok .nx (enH ns start most [a, b] [] none none none none) := by
      simp only [s_set, s_lst, s_nil, s_looks_nil, List.length_nil, List.all_nil, Nat.zero_le, and_self, if_true]
      rfl
    obtain ⟨e', q1, g, s5, s6, s7, s8, he, G, hgl⟩ := for_inv (tg := .nm 5) (body := bodyG) (ds := rngD 0 a.toNat) (e := enH ns start most [a, b] [] none none none none)
      (fun i e => ∃ (g : Gr) (s5 s6 s7 s8 : Option SV), e = enH ns start most [a, b] g s5 s6 s7 s8 ∧ GOk g ∧ g.length = i) (fun i d e hi ⟨g, s5, s6, s7, s8, he, G, hgl⟩ => by
        obtain ⟨li, rfl⟩ := rng_get hi
        subst he
        subst hgl
        rw [Int.zero_add]
        obtain ⟨g', s6', s7', s8', t1, t2, t3⟩ := turnG ns start most [a, b] g s0 (b := b) rfl hb0.1 (by omega) G (by omega) s6 s7 s8
        exact ⟨_, _, rfl, .inl t1, g', _, s6', s7', s8', rfl, t2, t3⟩) ⟨[], none, none, none, none, rfl, gok_nil, rfl⟩
    subst he
    have hln : (rngD 0 a.toNat).length = a.toNat := by simp [rngD]
    refine ⟨g, ?_, G, by omega⟩
    refine run_ok rfl (e := enH ns start most [a, b] g s5 s6 s7 s8) ?_
    have hf : mForR1 (.nm 5) (mCons (mOp2 dIx (mVar 3) (mC (.int 0))) (mNil)) bodyG (enH ns start most [a, b] [] none none none none) = .ok .nx (enH ns start most [a, b] g s5 s6 s7 s8) := by
      rw [forR1_run (j := a) (e := enH ns start most [a, b] [] none none none none) _ ha0.1 (by omega)]
      · exact q1
      · have e1 : atI ([a, b].map PyData.int) 0 = some (.int a) := rfl
        simp only [s_cons, s_frz, s_op2, s_var, List.getElem?_cons_zero, List.getElem?_cons_succ, s_c, s_look_d, s_look_bor, s_dIx, s_ix_l, e1, s_nil, s_lent_d, if_true]
    rw [graph_def, h5, seq_ok h1, seq_ok h2, seq_ok hf]
    simp only [s_ret, s_callD, s_cons, s_frz, s_var, List.getElem?_cons_zero, List.getElem?_cons_succ, s_nil, s_lent_bor, if_true, s_looks_cons, s_looks_nil, s_look_bor, s_d1, s_dTuple_l, s_pure]
    rfl
end KG

namespace L2
open PySem PySem.Spec PyProof.Rows
theorem cut_drop (ds : List D) {c : Int} (h : 0 ≤ c) : L2.cutD ds (some c) none = ds.drop c.toNat := by
  unfold L2.cutD
  have e1 : HT.sIx ds.length ds.length none = ds.length := rfl
  have e2 : HT.sIx ds.length 0 (some c) = min c.toNat ds.length := by
    show (if c < 0 then (c + (ds.length : Int)).toNat else min c.toNat ds.length) = _
    rw [if_neg (by omega)]
  rw [e1, e2]
  by_cases hc : c.toNat ≤ ds.length
  · rw [Nat.min_eq_left hc, List.take_of_length_le (by rw [List.length_drop]; exact Nat.le_refl _)]
  · rw [Nat.min_eq_right (by omega), Nat.sub_self, List.take_zero, List.drop_eq_nil_of_le (by omega)]
theorem lcR_run {en : En} {tg : Tg} {vs : List Nat} {mas : M (List SV)} {mc : M Bool} {me : M SV} {e : En} {j : Int} (h : mas en = .ok [.d (.int j)] e) (h0 : 0 ≤ j) (h1 : j ≤ 1000000) : mLcR tg vs mas mc me en = mComp tg vs mc me (rngD 0 j.toNat) e := by
  rw [s_lcR, h]
  show (if -(2 ^ 62) ≤ j ∧ j < 2 ^ 62 then mComp tg vs mc me (rngD 0 j.toNat) e else .stuck) = _
  rw [if_pos ⟨by omega, by omega⟩]
end L2
namespace KG
open PySem PySem.Spec PyProof.Rows L2
theorem lfree_ok {g : Gr} (G : GOk g) (done : List Int) : F__law_free [gD g, .list (done.map .int)] = .ok (.own (.lst ((lwFree g done).map .int))) [] := by
  have hz := sizeLine_ge
  have hg := G.few
  have hin : ∀ k : Int, 0 ≤ k → k < g.length → mComp (.nm 3) [3] (mB (mOp2 dNin (mVar 3) (mVar 1))) (mVar 3) ((rowOf g k).map .int) [some (.d (gD g)), some (.d (.list (done.map .int))), some (.d (.int k)), none] =
      .ok (.own (.lst (((rowOf g k).filter fun p => !decide (p ∈ done)).map .int))) [some (.d (gD g)), some (.d (.list (done.map .int))), some (.d (.int k)), none] := fun k h0 h1 => by
    have hf := row_few G h0 h1
    refine comp_emb (f := PyData.int) (p := fun p => !decide (p ∈ done)) (g := PyData.int) (rowOf g k) rfl (fun p m => ?_) (by omega)
    refine ⟨[some (.d (gD g)), some (.d (.list (done.map .int))), some (.d (.int k)), some (.d (.int p))], rfl, ?_, fun _ => ?_⟩
    · simp only [s_B, s_op2, s_frz, s_var, List.getElem?_cons_zero, List.getElem?_cons_succ, s_look_d, s_dNin, inD_l]
    · simp only [s_keep, s_var, List.getElem?_cons_zero, List.getElem?_cons_succ]
  have hc : mComp (.nm 2) [2] (mAndT (mB (mOp2 dNin (mVar 2) (mVar 1))) (mB (mOp2 dEq (mLc (.nm 3) [3] (mOp2 dIx (mVar 0) (mVar 2)) (mB (mOp2 dNin (mVar 3) (mVar 1))) (mVar 3)) (mLst (mNil))))) (mVar 2) ((rngI g.length).map .int) [some (.d (gD g)), some (.d (.list (done.map .int))), none, none] =
      .ok (.own (.lst ((lwFree g done).map .int))) [some (.d (gD g)), some (.d (.list (done.map .int))), none, none] := by
    refine comp_emb (f := PyData.int) (p := fun k => !decide (k ∈ done) && isFr g done k) (g := PyData.int) (rngI g.length) rfl (fun k m => ?_) (by rw [rng_len]; omega)
    obtain ⟨h0, h1⟩ := mem_rng.mp m
    refine ⟨[some (.d (gD g)), some (.d (.list (done.map .int))), some (.d (.int k)), none], rfl, ?_, fun _ => ?_⟩
    · have e0 : rowD (rowOf g k) = .tuple ((rowOf g k).map .int) := rfl
      have hi := ix_row g h0 h1
      have e2 : decide ((rowOf g k).filter (fun p => !decide (p ∈ done)) = []) = isFr g done k := by
        rw [Bool.eq_iff_iff, decide_eq_true_eq, isFr_iff, List.filter_eq_nil_iff]
        exact ⟨fun h p mp => Classical.byContradiction fun n => h p mp (by simp [n]), fun h p mp z => by simp [h p mp] at z⟩
      by_cases hk : k ∈ done
      · simp only [s_andT, s_B, s_op2, s_frz, s_var, List.getElem?_cons_zero, List.getElem?_cons_succ, s_look_d, s_dNin, inD_l, hk, decide_true, Bool.not_true, Bool.false_and]
      · have q : mfrz (mLc (.nm 3) [3] (mOp2 dIx (mVar 0) (mVar 2)) (mB (mOp2 dNin (mVar 3) (mVar 1))) (mVar 3)) [some (.d (gD g)), some (.d (.list (done.map .int))), some (.d (.int k)), none] = .ok (.d (.list (((rowOf g k).filter fun p => !decide (p ∈ done)).map .int))) [some (.d (gD g)), some (.d (.list (done.map .int))), some (.d (.int k)), none] := by
          rw [s_frz, s_lc, s_frz, s_op2]
          simp only [s_frz, s_var, List.getElem?_cons_zero, List.getElem?_cons_succ, s_look_d, s_dIx, hi, e0, hin k h0 h1]
        have q2 : mfrz (mLst (mNil)) [some (.d (gD g)), some (.d (.list (done.map .int))), some (.d (.int k)), none] = .ok (.d (.list (([] : List Int).map .int))) [some (.d (gD g)), some (.d (.list (done.map .int))), some (.d (.int k)), none] := by
          simp only [s_frz, s_lst, s_nil, s_looks_nil, List.length_nil, List.all_nil, Nat.zero_le, and_self, if_true, List.map_nil]
        rw [s_andT]
        have t1 : mB (mOp2 dNin (mVar 2) (mVar 1)) [some (.d (gD g)), some (.d (.list (done.map .int))), some (.d (.int k)), none] = .ok true [some (.d (gD g)), some (.d (.list (done.map .int))), some (.d (.int k)), none] := by
          simp only [s_B, s_op2, s_frz, s_var, List.getElem?_cons_zero, List.getElem?_cons_succ, s_look_d, s_dNin, inD_l, hk, decide_false, Bool.not_false]
        rw [t1]
        dsimp only
        rw [s_B, s_op2, q]
        dsimp only
        rw [q2]
        dsimp only
        rw [s_look_d, s_look_d]
        dsimp only
        rw [s_dEq, eq_ints, e2]
        simp only [hk, decide_false, Bool.not_false, Bool.true_and]
    · simp only [s_keep, s_var, List.getElem?_cons_zero, List.getElem?_cons_succ]
  refine run_own rfl (e := [some (.d (gD g)), some (.d (.list (done.map .int))), none, none]) ?_
  unfold m__law_free
  have h5 : [gD g, PyData.list (done.map PyData.int)].map (fun d => some (SV.d d)) ++ List.replicate (4 - 2) none = [some (.d (gD g)), some (.d (.list (done.map .int))), none, none] := rfl
  have eg : gD g = .tuple (g.map rowD) := rfl
  rw [h5]
  have hl : mCons (mCallD (d1 dLen) (mCons (mVar 0) (mNil))) (mNil) [some (.d (gD g)), some (.d (.list (done.map .int))), none, none] = .ok [.d (.int g.length)] [some (.d (gD g)), some (.d (.list (done.map .int))), none, none] := by
    simp only [s_cons, s_frz, s_callD, s_var, List.getElem?_cons_zero, s_nil, s_lent_d, if_true, s_looks_cons, s_looks_nil, s_look_d, s_d1, eg, s_len_t, List.length_map, s_pure]
  rw [s_ret, lcR_run hl (by omega) (by omega), Int.toNat_natCast, rngD_rng, hc]
/-! ### _law_listed -/
abbrev enW (g : Gr) (c : Int) (order done : List Int) (steps : List (List Int)) (s5 s6 s7 : Option SV) : En :=
  [some (.d (gD g)), some (.d (.int c)), some (.d (.list (order.map .int))), some (.own (.lst (done.map .int))), some (.own (.lst (steps.map rowD))), s5, s6, s7, none, none]
noncomputable abbrev bodyW : M Ct := mSeq (mSet 6 (mCall F__law_free (mCons (mVar 0) (mCons (mVar 3) (mNil))))) (mSeq (mIfS (mB (mOp2 dEq (mVar 6) (mLst (mNil)))) (mpure .bk) (mNx)) (mSeq (mSet 7 (mSl2 (mLc (.nm 8) [8] (mVar 2) (mB (mOp2 dIn (mVar 8) (mVar 6))) (mVar 8)) none (some (mVar 1)))) (mSeq (mAppend 4 (mCallD (d1 dTuple) (mCons (mLcR (.nm 9) [9] (mCons (mCallD (d1 dLen) (mCons (mVar 0) (mNil))) (mNil)) (mB (mOp2 dIn (mVar 9) (mVar 7))) (mVar 9)) (mNil)))) (mSet 3 (mOp2 dAdd (mVar 3) (mVar 7))))))
section
variable {g : Gr} (G : GOk g) {c : Int} (hc : 0 ≤ c) {order done : List Int} {steps : List (List Int)} {s5 s6 s7 : Option SV}
include G hc
theorem w1 : mSet 6 (mCall F__law_free (mCons (mVar 0) (mCons (mVar 3) (mNil)))) (enW g c order done steps s5 s6 s7) = .ok .nx (enW g c order done steps s5 (some (.own (.lst ((lwFree g done).map .int)))) s7) := by
  have hf : flatO (.lst ((lwFree g done).map .int)) = true := flats_ints _
  have ha : mCons (mVar 0) (mCons (mVar 3) (mNil)) (enW g c order done steps s5 s6 s7) = .ok [.d (gD g), .bor 3] (enW g c order done steps s5 s6 s7) := by
    simp only [s_cons, s_frz, s_var, List.getElem?_cons_zero, List.getElem?_cons_succ, s_nil, s_lent_d, s_lent_bor, if_true]
  have hl : looksA (enW g c order done steps s5 s6 s7) [.d (gD g), .bor 3] = some [gD g, .list (done.map .int)] := by
    simp only [s_looksA_cons, s_looksA_nil, s_lookA_d, s_lookA_bor, List.getElem?_cons_zero, List.getElem?_cons_succ]
  rw [set_own (call_own ha hl (lfree_ok G done) hf)]
  rfl
theorem w2 (fr : List Int) : mB (mOp2 dEq (mVar 6) (mLst (mNil))) (enW g c order done steps s5 (some (.own (.lst (fr.map .int)))) s7) = .ok (decide (fr = [])) (enW g c order done steps s5 (some (.own (.lst (fr.map .int)))) s7) := by
  have q2 : mfrz (mLst (mNil)) (enW g c order done steps s5 (some (.own (.lst (fr.map .int)))) s7) = .ok (.d (.list (([] : List Int).map .int))) (enW g c order done steps s5 (some (.own (.lst (fr.map .int)))) s7) := by
    simp only [s_frz, s_lst, s_nil, s_looks_nil, List.length_nil, List.all_nil, Nat.zero_le, and_self, if_true, List.map_nil]
  rw [s_B, s_op2]
  rw [show mfrz (mVar 6) (enW g c order done steps s5 (some (.own (.lst (fr.map .int)))) s7) = .ok (.bor 6) (enW g c order done steps s5 (some (.own (.lst (fr.map .int)))) s7) from rfl]
  dsimp only
  rw [q2]
  dsimp only
  rw [s_look_bor, s_look_d]
  simp only [List.getElem?_cons_zero, List.getElem?_cons_succ, s_dEq, eq_ints]
theorem w3 (fr : List Int) (ho : order.length ≤ 1000) : mSet 7 (mSl2 (mLc (.nm 8) [8] (mVar 2) (mB (mOp2 dIn (mVar 8) (mVar 6))) (mVar 8)) none (some (mVar 1))) (enW g c order done steps s5 (some (.own (.lst (fr.map .int)))) s7) =
    .ok .nx (enW g c order done steps s5 (some (.own (.lst (fr.map .int)))) (some (.own (.lst (((order.filter fun k => decide (k ∈ fr)).take c.toNat).map .int))))) := by
  have hz := sizeLine_ge
  have h1 : mComp (.nm 8) [8] (mB (mOp2 dIn (mVar 8) (mVar 6))) (mVar 8) (order.map .int) (enW g c order done steps s5 (some (.own (.lst (fr.map .int)))) s7) = .ok (.own (.lst ((order.filter fun k => decide (k ∈ fr)).map .int))) (enW g c order done steps s5 (some (.own (.lst (fr.map .int)))) s7) := by
    refine comp_emb (f := PyData.int) (p := fun k => decide (k ∈ fr)) (g := PyData.int) order rfl (fun k m => ?_) (by omega)
    refine ⟨[some (.d (gD g)), some (.d (.int c)), some (.d (.list (order.map .int))), some (.own (.lst (done.map .int))), some (.own (.lst (steps.map rowD))), s5, some (.own (.lst (fr.map .int))), s7, some (.d (.int k)), none], rfl, ?_, fun _ => ?_⟩
    · simp only [s_B, s_op2, s_frz, s_var, List.getElem?_cons_zero, List.getElem?_cons_succ, s_look_d, s_look_bor, s_dIn, inD_l]
    · simp only [s_keep, s_var, List.getElem?_cons_zero, List.getElem?_cons_succ]
  have h2 : mfrz (mLc (.nm 8) [8] (mVar 2) (mB (mOp2 dIn (mVar 8) (mVar 6))) (mVar 8)) (enW g c order done steps s5 (some (.own (.lst (fr.map .int)))) s7) = .ok (.d (.list ((order.filter fun k => decide (k ∈ fr)).map .int))) (enW g c order done steps s5 (some (.own (.lst (fr.map .int)))) s7) := by
    rw [s_frz, s_lc, s_frz, s_var]
    simp only [List.getElem?_cons_zero, List.getElem?_cons_succ, h1]
  have h3 : mfrz (mVar 1) (enW g c order done steps s5 (some (.own (.lst (fr.map .int)))) s7) = .ok (.d (.int c)) (enW g c order done steps s5 (some (.own (.lst (fr.map .int)))) s7) := rfl
  rw [s_set, s_slH h2 h3 rfl, s_dSl_l]
  dsimp only
  rw [cut_take _ hc, ← List.map_take]
  rfl
theorem w4 (ch : List Int) (hs : steps.length < 100000) : mAppend 4 (mCallD (d1 dTuple) (mCons (mLcR (.nm 9) [9] (mCons (mCallD (d1 dLen) (mCons (mVar 0) (mNil))) (mNil)) (mB (mOp2 dIn (mVar 9) (mVar 7))) (mVar 9)) (mNil))) (enW g c order done steps s5 s6 (some (.own (.lst (ch.map .int))))) =
    .ok .nx (enW g c order done (steps ++ [(rngI g.length).filter fun k => decide (k ∈ ch)]) s5 s6 (some (.own (.lst (ch.map .int))))) := by
  have hz := sizeLine_ge
  have hg := G.few
  have h1 : mComp (.nm 9) [9] (mB (mOp2 dIn (mVar 9) (mVar 7))) (mVar 9) ((rngI g.length).map .int) (enW g c order done steps s5 s6 (some (.own (.lst (ch.map .int))))) = .ok (.own (.lst (((rngI g.length).filter fun k => decide (k ∈ ch)).map .int))) (enW g c order done steps s5 s6 (some (.own (.lst (ch.map .int))))) := by
    refine comp_emb (f := PyData.int) (p := fun k => decide (k ∈ ch)) (g := PyData.int) (rngI g.length) rfl (fun k m => ?_) (by rw [rng_len]; omega)
    refine ⟨[some (.d (gD g)), some (.d (.int c)), some (.d (.list (order.map .int))), some (.own (.lst (done.map .int))), some (.own (.lst (steps.map rowD))), s5, s6, some (.own (.lst (ch.map .int))), none, some (.d (.int k))], rfl, ?_, fun _ => ?_⟩
    · simp only [s_B, s_op2, s_frz, s_var, List.getElem?_cons_zero, List.getElem?_cons_succ, s_look_d, s_look_bor, s_dIn, inD_l]
    · simp only [s_keep, s_var, List.getElem?_cons_zero, List.getElem?_cons_succ]
  have eg : gD g = .tuple (g.map rowD) := rfl
  have hl : mCons (mCallD (d1 dLen) (mCons (mVar 0) (mNil))) (mNil) (enW g c order done steps s5 s6 (some (.own (.lst (ch.map .int))))) = .ok [.d (.int g.length)] (enW g c order done steps s5 s6 (some (.own (.lst (ch.map .int))))) := by
    simp only [s_cons, s_frz, s_callD, s_var, List.getElem?_cons_zero, s_nil, s_lent_d, if_true, s_looks_cons, s_looks_nil, s_look_d, s_d1, eg, s_len_t, List.length_map, s_pure]
  have h2 : mfrz (mLcR (.nm 9) [9] (mCons (mCallD (d1 dLen) (mCons (mVar 0) (mNil))) (mNil)) (mB (mOp2 dIn (mVar 9) (mVar 7))) (mVar 9)) (enW g c order done steps s5 s6 (some (.own (.lst (ch.map .int))))) = .ok (.d (.list (((rngI g.length).filter fun k => decide (k ∈ ch)).map .int))) (enW g c order done steps s5 s6 (some (.own (.lst (ch.map .int))))) := by
    rw [s_frz, lcR_run hl (by omega) (by omega), Int.toNat_natCast, rngD_rng, h1]
  have hsl : (steps.map rowD).length < sizeLine := by rw [List.length_map]; omega
  have h3 : mkeep (mCallD (d1 dTuple) (mCons (mLcR (.nm 9) [9] (mCons (mCallD (d1 dLen) (mCons (mVar 0) (mNil))) (mNil)) (mB (mOp2 dIn (mVar 9) (mVar 7))) (mVar 9)) (mNil))) (enW g c order done steps s5 s6 (some (.own (.lst (ch.map .int))))) = .ok (.d (rowD ((rngI g.length).filter fun k => decide (k ∈ ch)))) (enW g c order done steps s5 s6 (some (.own (.lst (ch.map .int))))) := by
    rw [s_keep, callD_ok (cons_ok h2 (s_nil) rfl) rfl]
    rfl
  rw [append_ok rfl h3 rfl hsl]
  have e : (steps ++ [(rngI g.length).filter fun k => decide (k ∈ ch)]).map rowD = steps.map rowD ++ [rowD ((rngI g.length).filter fun k => decide (k ∈ ch))] := by rw [List.map_append]; rfl
  dsimp only [enW]
  rw [e]
  rfl
theorem w5 (ch : List Int) (hs : done.length + ch.length ≤ 1000000) : mSet 3 (mOp2 dAdd (mVar 3) (mVar 7)) (enW g c order done steps s5 s6 (some (.own (.lst (ch.map .int))))) = .ok .nx (enW g c order (done ++ ch) steps s5 s6 (some (.own (.lst (ch.map .int))))) := by
  have hz := sizeLine_ge
  have hl : (done.map PyData.int).length + (ch.map PyData.int).length ≤ sizeLine := by rw [List.length_map, List.length_map]; omega
  simp only [s_set, s_op2, s_frz, s_var, List.getElem?_cons_zero, List.getElem?_cons_succ, s_look_bor, s_add_l, hl, if_true]
  have e : (done ++ ch).map PyData.int = done.map PyData.int ++ ch.map PyData.int := List.map_append
  dsimp only [enW]
  rw [e]
  rfl
end
theorem loopW {g : Gr} (G : GOk g) {c : Int} (hc : 0 ≤ c) {order : List Int} (ho : order.length ≤ 62) : ∀ (ds : List D) (done : List Int) (steps : List (List Int)) (s5 s6 s7 : Option SV), done.length + 62 * ds.length ≤ 10000 → steps.length + ds.length ≤ 10000 →
    ∃ done' s5' s6' s7', forGo (.nm 5) none bodyW ds (enW g c order done steps s5 s6 s7) = .ok .nx (enW g c order done' (steps ++ lw g c.toNat order ds.length done) s5' s6' s7')
  | [], done, steps, s5, s6, s7, _, _ => ⟨done, s5, s6, s7, by rw [for_nil rfl]; simp [lw]⟩
  | d :: r, done, steps, s5, s6, s7, h1, h2 => by
    simp only [List.length_cons] at h1 h2
    have t1 := w1 G hc (order := order) (done := done) (steps := steps) (s5 := some (.d d)) (s6 := s6) (s7 := s7)
    have t2 := w2 G hc (order := order) (done := done) (steps := steps) (s5 := some (.d d)) (s7 := s7) (lwFree g done)
    by_cases e : lwFree g done = []
    · refine ⟨done, some (.d d), some (.own (.lst ((lwFree g done).map .int))), s7, ?_⟩
      rw [decide_eq_true e] at t2
      have hb : bodyW (enW g c order done steps (some (.d d)) s6 s7) = .ok .bk (enW g c order done steps (some (.d d)) (some (.own (.lst ((lwFree g done).map .int)))) s7) := by
        unfold bodyW
        rw [seq_ok t1, s_seq, s_ifS, t2]
        rfl
      rw [for_bk rfl rfl hb, List.length_cons, lw, if_pos e, List.append_nil]
    · rw [decide_eq_false e] at t2
      have t3 := w3 G hc (order := order) (done := done) (steps := steps) (s5 := some (.d d)) (s7 := s7) (lwFree g done) (by omega)
      have hcl : (lwStep g c.toNat order done).length ≤ 62 := by
        unfold lwStep
        rw [List.length_take]
        have : (order.filter fun k => decide (k ∈ lwFree g done)).length ≤ _ := List.length_filter_le _ _
        omega
      have t4 := w4 G hc (order := order) (done := done) (steps := steps) (s5 := some (.d d)) (s6 := some (.own (.lst ((lwFree g done).map .int)))) (lwStep g c.toNat order done) (by omega)
      have t5 := w5 G hc (order := order) (done := done) (steps := steps ++ [(rngI g.length).filter fun k => decide (k ∈ lwStep g c.toNat order done)]) (s5 := some (.d d)) (s6 := some (.own (.lst ((lwFree g done).map .int)))) (lwStep g c.toNat order done) (by omega)
      obtain ⟨done', s5', s6', s7', hr⟩ := loopW G hc ho r (done ++ lwStep g c.toNat order done) (steps ++ [(rngI g.length).filter fun k => decide (k ∈ lwStep g c.toNat order done)]) (some (.d d)) (some (.own (.lst ((lwFree g done).map .int)))) (some (.own (.lst ((lwStep g c.toNat order done).map .int)))) (by simp; omega) (by simp; omega)
      refine ⟨done', s5', s6', s7', ?_⟩
      have hif : mIfS (mB (mOp2 dEq (mVar 6) (mLst (mNil)))) (mpure .bk) (mNx) (enW g c order done steps (some (.d d)) (some (.own (.lst ((lwFree g done).map .int)))) s7) = .ok .nx (enW g c order done steps (some (.d d)) (some (.own (.lst ((lwFree g done).map .int)))) s7) := by
        rw [s_ifS, t2]
        rfl
      have hb : bodyW (enW g c order done steps (some (.d d)) s6 s7) = .ok .nx (enW g c order (done ++ lwStep g c.toNat order done) (steps ++ [(rngI g.length).filter fun k => decide (k ∈ lwStep g c.toNat order done)]) (some (.d d)) (some (.own (.lst ((lwFree g done).map .int)))) (some (.own (.lst ((lwStep g c.toNat order done).map .int))))) := by
        unfold bodyW
        rw [seq_ok t1, seq_ok hif, seq_ok t3]
        show mSeq _ _ (enW g c order done steps (some (.d d)) (some (.own (.lst ((lwFree g done).map .int)))) (some (.own (.lst ((lwStep g c.toNat order done).map .int))))) = _
        rw [seq_ok t4, t5]
      rw [for_step rfl rfl hb, hr, List.length_cons, lw, if_neg e, List.append_assoc]
      rfl
theorem llisted_def : m__law_listed = mSeq (mSet 3 (mLst (mNil))) (mSeq (mSet 4 (mLst (mNil))) (mSeq (mForR1 (.nm 5) (mCons (mCallD (d1 dLen) (mCons (mVar 0) (mNil))) (mNil)) bodyW) (mRet (mCallD (d1 dTuple) (mCons (mVar 4) (mNil)))))) := rfl
theorem llisted_ok {g : Gr} (G : GOk g) {c : Int} (hc : 0 ≤ c) {order : List Int} (ho : order.length ≤ 62) : F__law_listed [gD g, .int c, .list (order.map .int)] = .ok (.d (.tuple ((lw g c.toNat order g.length []).map rowD))) [] := by
  have hg := G.few
  have hln : (rngD 0 g.length).length = g.length := by simp [rngD]
  obtain ⟨done', s5', s6', s7', hr⟩ := loopW G hc ho (rngD 0 g.length) [] [] none none none (by simp only [List.length_nil]; omega) (by simp only [List.length_nil]; omega)
  rw [hln, List.nil_append] at hr
  refine run_ok rfl (e := enW g c order done' (lw g c.toNat order g.length []) s5' s6' s7') ?_
  have h5 : [gD g, PyData.int c, PyData.list (order.map PyData.int)].map (fun d => some (SV.d d)) ++ List.replicate (10 - 3) none = [some (.d (gD g)), some (.d (.int c)), some (.d (.list (order.map .int))), none, none, none, none, none, none, none] := rfl
  have h1 : mSet 3 (mLst (mNil)) [some (.d (gD g)), some (.d (.int c)), some (.d (.list (order.map .int))), none, none, none, none, none, none, none] = .ok .nx [some (.d (gD g)), some (.d (.int c)), some (.d (.list (order.map .int))), some (.own (.lst [])), none, none, none, none, none, none] := by
    simp only [s_set, s_lst, s_nil, s_looks_nil, List.length_nil, List.all_nil, Nat.zero_le, and_self, if_true]
    rfl
  have h2 : mSet 4 (mLst (mNil)) [some (.d (gD g)), some (.d (.int c)), some (.d (.list (order.map .int))), some (.own (.lst [])), none, none, none, none, none, none] = .ok .nx (enW g c order [] [] none none none) := by
    simp only [s_set, s_lst, s_nil, s_looks_nil, List.length_nil, List.all_nil, Nat.zero_le, and_self, if_true]
    rfl
  have eg : gD g = .tuple (g.map rowD) := rfl
  have hf : mForR1 (.nm 5) (mCons (mCallD (d1 dLen) (mCons (mVar 0) (mNil))) (mNil)) bodyW (enW g c order [] [] none none none) = .ok .nx (enW g c order done' (lw g c.toNat order g.length []) s5' s6' s7') := by
    rw [forR1_run (j := (g.length : Int)) (e := enW g c order [] [] none none none) _ (by omega) (by omega)]
    · rw [Int.toNat_natCast]
      exact hr
    · simp only [s_cons, s_frz, s_callD, s_var, List.getElem?_cons_zero, s_nil, s_lent_d, if_true, s_looks_cons, s_looks_nil, s_look_d, s_d1, eg, s_len_t, List.length_map, s_pure]
  rw [llisted_def, h5, seq_ok h1, seq_ok h2, seq_ok hf]
  simp only [s_ret, s_callD, s_cons, s_frz, s_var, List.getElem?_cons_zero, List.getElem?_cons_succ, s_nil, s_lent_bor, if_true, s_looks_cons, s_looks_nil, s_look_bor, s_d1, s_dTuple_l, s_pure]
end KG

namespace KG
open PySem PySem.Spec PyProof.Rows L2
abbrev enO (cell n : Int) (dr left order : List Int) (s5 : Option SV) : En :=
  [some (.d (.int cell)), some (.d (.int n)), some (.own (.lst (dr.map .int))), some (.own (.lst (left.map .int))), some (.own (.lst (order.map .int))), s5]
noncomputable abbrev bodyO : M Ct := mSeq (mAppend 4 (mOp2 dIx (mVar 3) (mOp2 dIx (mVar 2) (mVar 5)))) (mSet 3 (mOp2 dAdd (mSl2 (mVar 3) none (some (mOp2 dIx (mVar 2) (mVar 5)))) (mSl2 (mVar 3) (some (mOp2 dAdd (mOp2 dIx (mVar 2) (mVar 5)) (mC (.int 1)))) none)))
theorem cut_perm (l : List Int) {j : Nat} {x : Int} (h : l[j]? = some x) (a : List Int) : ((a ++ [x]) ++ (l.take j ++ l.drop (j + 1))).Perm (a ++ l) := by
  have e : l = l.take j ++ x :: l.drop (j + 1) := by
    have hj := (List.getElem?_eq_some_iff.mp h)
    obtain ⟨hl, hx⟩ := hj
    rw [← hx, ← List.drop_eq_getElem_cons hl, List.take_append_drop]
  rw [List.append_assoc]
  refine List.Perm.append_left a ?_
  refine List.Perm.trans ?_ (List.Perm.of_eq e.symm)
  rw [List.singleton_append]
  exact List.perm_middle.symm
section
variable (cell n : Int) (dr left order : List Int)
theorem turnO {i : Nat} {d x : Int} (hd : dr[i]? = some d) (d0 : 0 ≤ d) (hx : left[d.toNat]? = some x) (hl : left.length ≤ 1000) (ho : order.length ≤ 1000) :
    bodyO (enO cell n dr left order (some (.d (.int i)))) = .ok .nx (enO cell n dr (left.take d.toNat ++ left.drop (d.toNat + 1)) (order ++ [x]) (some (.d (.int i)))) := by
  have hz := sizeLine_ge
  have e1 : atI (dr.map PyData.int) (i : Int) = some (.int d) := atI_at (by omega) (by rw [Int.toNat_natCast, List.getElem?_map, hd]; rfl)
  have e2 : atI (left.map PyData.int) d = some (.int x) := atI_at d0 (by rw [List.getElem?_map, hx]; rfl)
  have hix : ∀ (order : List Int), mfrz (mOp2 dIx (mVar 2) (mVar 5)) (enO cell n dr left order (some (.d (.int i)))) = .ok (.d (.int d)) (enO cell n dr left order (some (.d (.int i)))) := fun order => by
    simp only [s_frz, s_op2, s_var, List.getElem?_cons_zero, List.getElem?_cons_succ, s_look_d, s_look_bor, s_dIx, s_ix_l, e1]
  have h1 : mAppend 4 (mOp2 dIx (mVar 3) (mOp2 dIx (mVar 2) (mVar 5))) (enO cell n dr left order (some (.d (.int i)))) = .ok .nx (enO cell n dr left (order ++ [x]) (some (.d (.int i)))) := by
    have hk : mkeep (mOp2 dIx (mVar 3) (mOp2 dIx (mVar 2) (mVar 5))) (enO cell n dr left order (some (.d (.int i)))) = .ok (.d (.int x)) (enO cell n dr left order (some (.d (.int i)))) := by
      rw [s_keep, op2_ok (a := .bor 3) rfl (hix order) rfl rfl]
      simp only [s_dIx, s_ix_l, e2]
    have hlo : (order.map PyData.int).length < sizeLine := by rw [List.length_map]; omega
    rw [append_ok rfl hk rfl hlo]
    have e : (order ++ [x]).map PyData.int = order.map PyData.int ++ [PyData.int x] := by rw [List.map_append]; rfl
    dsimp only [enO]
    rw [e]
    rfl
  have h2 : mfrz (mSl2 (mVar 3) none (some (mOp2 dIx (mVar 2) (mVar 5)))) (enO cell n dr left (order ++ [x]) (some (.d (.int i)))) = .ok (.d (.list ((left.take d.toNat).map .int))) (enO cell n dr left (order ++ [x]) (some (.d (.int i)))) := by
    refine frz_own ?_
    rw [s_slH (sv := .bor 3) rfl (hix (order ++ [x])) rfl, s_dSl_l, cut_take _ d0, List.map_take]
  have h3 : mfrz (mSl2 (mVar 3) (some (mOp2 dAdd (mOp2 dIx (mVar 2) (mVar 5)) (mC (.int 1)))) none) (enO cell n dr left (order ++ [x]) (some (.d (.int i)))) = .ok (.d (.list ((left.drop (d.toNat + 1)).map .int))) (enO cell n dr left (order ++ [x]) (some (.d (.int i)))) := by
    refine frz_own ?_
    have hj : mfrz (mOp2 dAdd (mOp2 dIx (mVar 2) (mVar 5)) (mC (.int 1))) (enO cell n dr left (order ++ [x]) (some (.d (.int i)))) = .ok (.d (.int (d + 1))) (enO cell n dr left (order ++ [x]) (some (.d (.int i)))) := by
      refine frz_d ?_
      rw [op2_ok (hix (order ++ [x])) rfl rfl rfl, s_dAdd_i]
      rfl
    rw [s_slL (sv := .bor 3) rfl hj rfl, s_dSl_l, cut_drop _ (by omega), List.map_drop, show (d + 1).toNat = d.toNat + 1 by omega]
  have hlen : ((left.take d.toNat).map PyData.int).length + ((left.drop (d.toNat + 1)).map PyData.int).length ≤ sizeLine := by
    rw [List.length_map, List.length_map, List.length_take, List.length_drop]
    omega
  have h4 : mSet 3 (mOp2 dAdd (mSl2 (mVar 3) none (some (mOp2 dIx (mVar 2) (mVar 5)))) (mSl2 (mVar 3) (some (mOp2 dAdd (mOp2 dIx (mVar 2) (mVar 5)) (mC (.int 1)))) none)) (enO cell n dr left (order ++ [x]) (some (.d (.int i)))) = .ok .nx (enO cell n dr (left.take d.toNat ++ left.drop (d.toNat + 1)) (order ++ [x]) (some (.d (.int i)))) := by
    refine (set_own (o := .lst ((left.take d.toNat).map .int ++ (left.drop (d.toNat + 1)).map .int)) (e := enO cell n dr left (order ++ [x]) (some (.d (.int i)))) ?_).trans ?_
    · rw [op2_ok h2 h3 rfl rfl, s_add_l, if_pos hlen]
    · rw [← List.map_append]
      rfl
  unfold bodyO
  rw [seq_ok h1, h4]
end
theorem order_def : m__law_order = mSeq (mSet 2 (mCall F__law_draws (mCons (mVar 0) (mCons (mOp2 dAdd (mLcR (.nm 5) [5] (mCons (mVar 1) (mNil)) (mYes) (mCallD dMax2 (mCons (mC (.int 1)) (mCons (mOp2 dSub (mVar 1) (mVar 5)) (mNil))))) (mLst (mCons (mC (.int 1)) (mNil)))) (mNil))))) (mSeq (mSet 3 (mLRange (mVar 1))) (mSeq (mSet 4 (mLst (mNil))) (mSeq (mForR1 (.nm 5) (mCons (mVar 1) (mNil)) bodyO) (mRet (mVar 4))))) := rfl
/-- the bounds of what is drawn -/
def bndO (n : Nat) : List Int := ((rngI n).map fun k => if (n : Int) - k > 1 then (n : Int) - k else 1) ++ [1]
theorem bndO_get {n i : Nat} (h : i < n) : (bndO n)[i]? = some ((n : Int) - i) := by
  unfold bndO
  rw [List.getElem?_append_left (by rw [List.length_map, rng_len]; exact h), List.getElem?_map]
  have e : (rngI n)[i]? = some (i : Int) := by
    unfold rngI
    rw [List.getElem?_map, List.getElem?_range h]
    rfl
  rw [e]
  simp only [Option.map_some]
  congr 1
  split <;> omega
theorem order_ok (cell : Int) {n : Nat} (hn : n ≤ 62) : ∃ o, F__law_order [.int cell, .int n] = .ok (.own (.lst (o.map .int))) [] ∧ Ord n o := by
  have hz := sizeLine_ge
  have B : Bnds (bndO n) := by
    refine ⟨by unfold bndO; simp [rng_len]; omega, fun b m => ?_, fun b m => ?_⟩ <;>
      (unfold bndO at m
       rcases List.mem_append.mp m with m | m
       · obtain ⟨k, mk, rfl⟩ := List.mem_map.mp m
         have := mem_rng.mp mk
         split <;> omega
       · rw [List.mem_singleton.mp m]; omega)
  obtain ⟨dr, hd, hdl, hda⟩ := draws_ok cell (bndO n) B
  have hdl' : dr.length = n + 1 := by rw [hdl]; unfold bndO; simp [rng_len]
  have h5 : [PyData.int cell, PyData.int n].map (fun d => some (SV.d d)) ++ List.replicate (6 - 2) none = [some (.d (.int cell)), some (.d (.int n)), none, none, none, none] := rfl
  have hc : mfrz (mLcR (.nm 5) [5] (mCons (mVar 1) (mNil)) (mYes) (mCallD dMax2 (mCons (mC (.int 1)) (mCons (mOp2 dSub (mVar 1) (mVar 5)) (mNil))))) [some (.d (.int cell)), some (.d (.int n)), none, none, none, none] = .ok (.d (.list (((rngI n).map fun k => if (n : Int) - k > 1 then (n : Int) - k else 1).map .int))) [some (.d (.int cell)), some (.d (.int n)), none, none, none, none] := by
    refine frz_own ?_
    rw [lcR_run (mas := mCons (mVar 1) mNil) (j := (n : Int)) (e := [some (.d (.int cell)), some (.d (.int n)), none, none, none, none]) rfl (by omega) (by omega), Int.toNat_natCast, rngD_rng]
    rw [comp_emb (f := PyData.int) (p := fun _ => true) (g := fun k => .int (if (n : Int) - k > 1 then (n : Int) - k else 1)) (rngI n) rfl (fun k m => ?_) (by rw [rng_len]; omega)]
    · rw [List.filter_eq_self.mpr fun _ _ => rfl, List.map_map]
      rfl
    · refine ⟨[some (.d (.int cell)), some (.d (.int n)), none, none, none, some (.d (.int k))], rfl, rfl, fun _ => ?_⟩
      simp only [s_keep, s_callD, s_cons, s_frz, s_c, s_op2, s_var, List.getElem?_cons_zero, List.getElem?_cons_succ, s_look_d, s_sub, s_pure, s_nil, s_lent_d, if_true, s_looks_cons, s_looks_nil, s_max2]
  have hB : mfrz (mOp2 dAdd (mLcR (.nm 5) [5] (mCons (mVar 1) (mNil)) (mYes) (mCallD dMax2 (mCons (mC (.int 1)) (mCons (mOp2 dSub (mVar 1) (mVar 5)) (mNil))))) (mLst (mCons (mC (.int 1)) (mNil)))) [some (.d (.int cell)), some (.d (.int n)), none, none, none, none] = .ok (.d (.list ((bndO n).map .int))) [some (.d (.int cell)), some (.d (.int n)), none, none, none, none] := by
    refine frz_own ?_
    have h1 : mfrz (mLst (mCons (mC (.int 1)) (mNil))) [some (.d (.int cell)), some (.d (.int n)), none, none, none, none] = .ok (.d (.list (([1] : List Int).map .int))) [some (.d (.int cell)), some (.d (.int n)), none, none, none, none] := by
      have q : ([PyData.int 1] : List D).length ≤ sizeLine := by simp; omega
      simp only [s_frz, s_lst, s_cons, s_c, s_nil, s_lent_d, if_true, s_looks_cons, s_looks_nil, s_look_d, q, List.all_cons, List.all_nil, Bool.and_self, and_self]
      rfl
    have q : (((rngI n).map fun k => if (n : Int) - k > 1 then (n : Int) - k else 1).map PyData.int).length + (([1] : List Int).map PyData.int).length ≤ sizeLine := by
      rw [List.length_map, List.length_map, rng_len]
      simp
      omega
    rw [op2_ok hc h1 rfl rfl, s_add_l, if_pos q, ← List.map_append]
    rfl
  have h1 : mSet 2 (mCall F__law_draws (mCons (mVar 0) (mCons (mOp2 dAdd (mLcR (.nm 5) [5] (mCons (mVar 1) (mNil)) (mYes) (mCallD dMax2 (mCons (mC (.int 1)) (mCons (mOp2 dSub (mVar 1) (mVar 5)) (mNil))))) (mLst (mCons (mC (.int 1)) (mNil)))) (mNil)))) [some (.d (.int cell)), some (.d (.int n)), none, none, none, none] = .ok .nx [some (.d (.int cell)), some (.d (.int n)), some (.own (.lst (dr.map .int))), none, none, none] := by
    rw [set_own (call_own (cons_ok (a := .d (.int cell)) rfl (cons_ok hB s_nil rfl) rfl) rfl hd (flats_ints dr))]
    rfl
  have h2 : mSet 3 (mLRange (mVar 1)) [some (.d (.int cell)), some (.d (.int n)), some (.own (.lst (dr.map .int))), none, none, none] = .ok .nx [some (.d (.int cell)), some (.d (.int n)), some (.own (.lst (dr.map .int))), some (.own (.lst ((rngI n).map .int))), none, none] := by
    have q : ∀ j : Int, 0 ≤ j → j ≤ 100 → ∀ e : En, e[1]? = some (some (.d (.int j))) → mLRange (mVar 1) e = .ok (.own (.lst (rngD 0 j.toNat))) e := fun j a b e he => by
      rw [s_lrange, s_frz, s_var, he]
      dsimp only
      rw [s_look_d]
      dsimp only
      rw [if_pos ⟨by omega, by omega⟩]
    rw [set_own (q n (by omega) (by omega) _ rfl), Int.toNat_natCast, rngD_rng]
    rfl
  have h3 : mSet 4 (mLst (mNil)) [some (.d (.int cell)), some (.d (.int n)), some (.own (.lst (dr.map .int))), some (.own (.lst ((rngI n).map .int))), none, none] = .ok .nx (enO cell n dr (rngI n) [] none) := by
    simp only [s_set, s_lst, s_nil, s_looks_nil, List.length_nil, List.all_nil, Nat.zero_le, and_self, if_true]
    rfl
  obtain ⟨e', q1, left, order, s5, he, hll, hol, hp⟩ := for_inv (tg := .nm 5) (body := bodyO) (ds := rngD 0 n) (e := enO cell n dr (rngI n) [] none)
    (fun i e => ∃ (left order : List Int) (s5 : Option SV), e = enO cell n dr left order s5 ∧ left.length + i = n ∧ order.length = i ∧ (order ++ left).Perm (rngI n)) (fun i d e hi ⟨left, order, s5, he, hll, hol, hp⟩ => by
      obtain ⟨li, rfl⟩ := rng_get hi
      subst he
      rw [Int.zero_add]
      have hdi : dr[i]? = some dr[i] := List.getElem?_eq_getElem (by omega)
      have hb := hda i dr[i] ((n : Int) - i) hdi (bndO_get li)
      have hlt : dr[i].toNat < left.length := by omega
      have hx : left[dr[i].toNat]? = some left[dr[i].toNat] := List.getElem?_eq_getElem hlt
      have t := turnO cell n dr left order hdi hb.1 hx (by omega) (by omega)
      refine ⟨_, _, rfl, .inl t, _, _, _, rfl, ?_, by simp [hol], ?_⟩
      · rw [List.length_append, List.length_take, List.length_drop]
        omega
      · exact (cut_perm left hx order).trans hp) ⟨rngI n, [], none, rfl, by rw [rng_len]; rfl, rfl, List.Perm.refl _⟩
  subst he
  have hln : (rngD 0 n).length = n := by simp [rngD]
  rw [hln] at hll hol
  have hl0 : left = [] := List.length_eq_zero_iff.mp (by omega)
  subst hl0
  rw [List.append_nil] at hp
  refine ⟨order, ?_, ⟨hp.nodup_iff.mpr (rng_nodup n), fun k => hp.mem_iff.trans mem_rng⟩⟩
  refine run_bor rfl (e := enO cell n dr [] order s5) (i := 4) (o := .lst (order.map .int)) ?_ rfl
  have hf : mForR1 (.nm 5) (mCons (mVar 1) (mNil)) bodyO (enO cell n dr (rngI n) [] none) = .ok .nx (enO cell n dr [] order s5) := by
    rw [forR1_run (mas := mCons (mVar 1) mNil) (j := (n : Int)) (e := enO cell n dr (rngI n) [] none) rfl (by omega) (by omega), Int.toNat_natCast]
    exact q1
  rw [order_def, h5, seq_ok h1, seq_ok h2, seq_ok h3, seq_ok hf]
  rfl
end KG

namespace KG
open PySem PySem.Spec PyProof.Rows L2
/-! ### the text of what is listed -/
def smallI (x : Int) : Prop := 0 ≤ x ∧ x < 62
theorem small_text {x : Int} (h : smallI x) : (PyData.shown (.int x)).length ≤ 4 ∧ PyData.showable (.int x) = true := by
  have key : ∀ k ∈ List.range 62, (PyData.shown (.int (k : Nat))).length ≤ 4 ∧ PyData.showable (.int (k : Nat)) = true := by decide +kernel
  have e : x = ((x.toNat : Nat) : Int) := by have := h.1; omega
  rw [e]
  exact key _ (List.mem_range.mpr (by have := h.1; have := h.2; omega))
theorem row_text : ∀ {r : List Int}, (∀ x ∈ r, smallI x) → (((PyData.shownAll (r.map .int)).map (·.length)).sum ≤ 4 * r.length ∧ (PyData.shownAll (r.map .int)).length = r.length) ∧ PyData.showableAll (r.map .int) = true
  | [], _ => ⟨⟨by simp [PyData.shownAll], rfl⟩, rfl⟩
  | x :: r, h => by
    obtain ⟨h1, h2⟩ := small_text (h x List.mem_cons_self)
    obtain ⟨⟨h3, h4⟩, h5⟩ := row_text (r := r) fun y m => h y (List.mem_cons_of_mem _ m)
    refine ⟨⟨?_, ?_⟩, ?_⟩
    · rw [List.map_cons, PyData.shownAll, List.map_cons, List.sum_cons, List.length_cons]
      omega
    · rw [List.map_cons, PyData.shownAll, List.length_cons, List.length_cons, h4]
    · rw [List.map_cons, PyData.showableAll, h2, h5]
      rfl
theorem rowD_text {r : List Int} (h : ∀ x ∈ r, smallI x) (hl : r.length ≤ 62) : (PyData.shown (rowD r)).length ≤ 400 ∧ PyData.showable (rowD r) = true := by
  obtain ⟨⟨h3, h4⟩, h5⟩ := row_text h
  refine ⟨?_, ?_⟩
  · show (tupleText (PyData.shownAll (r.map .int))).length ≤ 400
    have := tupleText_len_le (PyData.shownAll (r.map .int))
    omega
  · show PyData.showableAll (r.map .int) = true
    exact h5
theorem rows_text : ∀ {s : List (List Int)}, (∀ r ∈ s, (∀ x ∈ r, smallI x) ∧ r.length ≤ 62) → (((PyData.shownAll (s.map rowD)).map (·.length)).sum ≤ 400 * s.length ∧ (PyData.shownAll (s.map rowD)).length = s.length) ∧ PyData.showableAll (s.map rowD) = true
  | [], _ => ⟨⟨by simp [PyData.shownAll], rfl⟩, rfl⟩
  | r :: s, h => by
    obtain ⟨h1, h2⟩ := rowD_text (h r List.mem_cons_self).1 (h r List.mem_cons_self).2
    obtain ⟨⟨h3, h4⟩, h5⟩ := rows_text (s := s) fun y m => h y (List.mem_cons_of_mem _ m)
    refine ⟨⟨?_, ?_⟩, ?_⟩
    · rw [List.map_cons, PyData.shownAll, List.map_cons, List.sum_cons, List.length_cons]
      omega
    · rw [List.map_cons, PyData.shownAll, List.length_cons, List.length_cons, h4]
    · rw [List.map_cons, PyData.showableAll, h2, h5]
      rfl
theorem rows_plain (s : List (List Int)) : plains (s.map rowD) = true := by
  induction s with
  | nil => rfl
  | cons r s ih =>
    rw [List.map_cons]
    show (plains (r.map .int) && plains (s.map rowD)) = true
    rw [ih, ints_plain]
    rfl
theorem rows_lay (s : List (List Int)) : PyData.canLayAll0 (s.map rowD) = true := by
  induction s with
  | nil => simp [PyData.canLayAll0]
  | cons r s ih =>
    have e : PyData.canLay0 (rowD r) = true := by
      show PyData.canLay0 (.tuple (r.map .int)) = true
      simp only [PyData.canLay0, ints_lay]
    simp only [List.map_cons, PyData.canLayAll0, e, ih, Bool.and_self]
theorem rows_depth (s : List (List Int)) : PyData.depthAll (s.map rowD) ≤ 1 := by
  induction s with
  | nil => simp [PyData.depthAll]
  | cons r s ih =>
    have e : PyData.depth (rowD r) = 1 := by
      show PyData.depth (.tuple (r.map .int)) = 1
      simp only [PyData.depth, ints_depth]
    simp only [List.map_cons, PyData.depthAll, e]
    omega
theorem rows_shaped (s : List (List Int)) : SeqAt.shaped (.tuple (s.map rowD)) = true := by
  have h := rows_depth s
  show (PyData.canLay0 (.tuple (s.map rowD)) && decide (PyData.depth (.tuple (s.map rowD)) ≤ 64)) = true
  rw [Bool.and_eq_true]
  refine ⟨by simp only [PyData.canLay0]; exact rows_lay s, decide_eq_true ?_⟩
  simp only [PyData.depth]
  omega
/-- the text of a schedule: some text -/
theorem repr_rows {s : List (List Int)} (hl : s.length ≤ 100) (h : ∀ r ∈ s, (∀ x ∈ r, smallI x) ∧ r.length ≤ 62) : ∃ z, reprD (.tuple (s.map rowD)) = some z := by
  obtain ⟨⟨h3, h4⟩, h5⟩ := rows_text h
  have hz := sizeLine_ge
  have ht : (PyData.shown (.tuple (s.map rowD))).length ≤ sizeLine := by
    show (tupleText (PyData.shownAll (s.map rowD))).length ≤ sizeLine
    have := tupleText_len_le (PyData.shownAll (s.map rowD))
    omega
  have hs : PyData.showable (.tuple (s.map rowD)) = true := h5
  refine ⟨PyData.shown (.tuple (s.map rowD)), ?_⟩
  show (if plains (s.map rowD) = true ∧ SeqAt.shaped (.tuple (s.map rowD)) = true ∧ PyData.showable (.tuple (s.map rowD)) = true ∧ (PyData.shown (.tuple (s.map rowD))).length ≤ sizeLine then some (PyData.shown (.tuple (s.map rowD))) else none) = _
  rw [if_pos ⟨rows_plain s, rows_shaped s, hs, ht⟩]
theorem lw_small {g : Gr} (G : GOk g) (c : Nat) (order : List Int) : ∀ (m : Nat) (done : List Int), (lw g c order m done).length ≤ m ∧ ∀ r ∈ lw g c order m done, (∀ x ∈ r, smallI x) ∧ r.length ≤ 62
  | 0, done => ⟨Nat.le_refl _, fun r m => by cases m⟩
  | m + 1, done => by
    have hg := G.few
    rw [lw]
    split
    · exact ⟨Nat.zero_le _, fun r m => by cases m⟩
    · obtain ⟨h1, h2⟩ := lw_small G c order m (done ++ lwStep g c order done)
      refine ⟨by rw [List.length_cons]; omega, fun r mr => ?_⟩
      rcases List.mem_cons.mp mr with rfl | mr
      · refine ⟨fun x mx => ?_, ?_⟩
        · have := mem_rng.mp (List.mem_filter.mp mx).1
          exact ⟨this.1, by omega⟩
        · refine Nat.le_trans (List.length_filter_le _ _) ?_
          rw [rng_len]
          exact hg
      · exact h2 r mr
end KG

namespace K22
open PySem PySem.Spec PyProof.Rows L2
/-! ### the text -/
def top (i : Nat) : Stmt := PySem.Challenge.pw_forkspan_k22_cut_down_is_never_longer.main.body.getD i (.Pass ⟨0, 0, 0, 0⟩)
abbrev s_is_integer : Stmt := top 1
abbrev N_is_integer : List Str := ["value"]
theorem sc_is_integer : FnScope N_is_integer ["value"] (defScope s_is_integer) := ⟨rfl, rfl, rfl, by decide +kernel, rfl, by decide +kernel, by decide +kernel⟩
abbrev s_is_row : Stmt := top 7
abbrev N_is_row : List Str := ["value", "limit", "node"]
theorem sc_is_row : FnScope N_is_row ["value", "limit"] (defScope s_is_row) := ⟨rfl, rfl, rfl, by decide +kernel, rfl, by decide +kernel, by decide +kernel⟩
abbrev s_is_graph : Stmt := top 6
abbrev N_is_graph : List Str := ["value", "node", "row"]
theorem sc_is_graph : FnScope N_is_graph ["value"] (defScope s_is_graph) := ⟨rfl, rfl, rfl, by decide +kernel, rfl, by decide +kernel, by decide +kernel⟩
abbrev s_check_graph : Stmt := top 8
abbrev N_check_graph : List Str := ["graph"]
theorem sc_check_graph : FnScope N_check_graph ["graph"] (defScope s_check_graph) := ⟨rfl, rfl, rfl, by decide +kernel, rfl, by decide +kernel, by decide +kernel⟩
abbrev s_nodes_of : Stmt := top 14
abbrev N_nodes_of : List Str := ["schedule", "step", "node"]
theorem sc_nodes_of : FnScope N_nodes_of ["schedule"] (defScope s_nodes_of) := ⟨rfl, rfl, rfl, by decide +kernel, rfl, by decide +kernel, by decide +kernel⟩
abbrev s_is_schedule : Stmt := top 10
abbrev N_is_schedule : List Str := ["graph", "cores", "value", "steps", "step", "number", "node", "row", "ahead"]
theorem sc_is_schedule : FnScope N_is_schedule ["graph", "cores", "value"] (defScope s_is_schedule) := ⟨rfl, rfl, rfl, by decide +kernel, rfl, by decide +kernel, by decide +kernel⟩
abbrev s_is_free : Stmt := top 16
abbrev N_is_free : List Str := ["graph", "done", "node", "ahead"]
theorem sc_is_free : FnScope N_is_free ["graph", "done", "node"] (defScope s_is_free) := ⟨rfl, rfl, rfl, by decide +kernel, rfl, by decide +kernel, by decide +kernel⟩
abbrev s_free_nodes : Stmt := top 15
abbrev N_free_nodes : List Str := ["graph", "done", "node"]
theorem sc_free_nodes : FnScope N_free_nodes ["graph", "done"] (defScope s_free_nodes) := ⟨rfl, rfl, rfl, by decide +kernel, rfl, by decide +kernel, by decide +kernel⟩
abbrev s_is_greedy : Stmt := top 11
abbrev N_is_greedy : List Str := ["graph", "cores", "schedule", "done", "step", "node"]
theorem sc_is_greedy : FnScope N_is_greedy ["graph", "cores", "schedule"] (defScope s_is_greedy) := ⟨rfl, rfl, rfl, by decide +kernel, rfl, by decide +kernel, by decide +kernel⟩
abbrev s_listed : Stmt := top 12
abbrev N_listed : List Str := ["graph", "cores", "order", "steps", "done", "left", "step", "node"]
theorem sc_listed : FnScope N_listed ["graph", "cores", "order"] (defScope s_listed) := ⟨rfl, rfl, rfl, by decide +kernel, rfl, by decide +kernel, by decide +kernel⟩
abbrev s_cut_down : Stmt := top 13
abbrev N_cut_down : List Str := ["graph", "cores", "schedule"]
theorem sc_cut_down : FnScope N_cut_down ["graph", "cores", "schedule"] (defScope s_cut_down) := ⟨rfl, rfl, rfl, by decide +kernel, rfl, by decide +kernel, by decide +kernel⟩
abbrev s__law_whole : Stmt := top 18
abbrev N__law_whole : List Str := ["value"]
theorem sc__law_whole : FnScope N__law_whole ["value"] (defScope s__law_whole) := ⟨rfl, rfl, rfl, by decide +kernel, rfl, by decide +kernel, by decide +kernel⟩
abbrev s__law_cell : Stmt := top 19
abbrev N__law_cell : List Str := ["script", "k", "rest", "number"]
theorem sc__law_cell : FnScope N__law_cell ["script", "k"] (defScope s__law_cell) := ⟨rfl, rfl, rfl, by decide +kernel, rfl, by decide +kernel, by decide +kernel⟩
abbrev s__law_draws : Stmt := top 20
abbrev N__law_draws : List Str := ["cell", "limits", "rest", "great", "found", "k", "mixed"]
theorem sc__law_draws : FnScope N__law_draws ["cell", "limits"] (defScope s__law_draws) := ⟨rfl, rfl, rfl, by decide +kernel, rfl, by decide +kernel, by decide +kernel⟩
abbrev s__law_graph : Stmt := top 21
abbrev N__law_graph : List Str := ["script", "start", "most", "shape", "graph", "k", "draws", "row", "number", "one"]
theorem sc__law_graph : FnScope N__law_graph ["script", "start", "most"] (defScope s__law_graph) := ⟨rfl, rfl, rfl, by decide +kernel, rfl, by decide +kernel, by decide +kernel⟩
abbrev s__law_free : Stmt := top 22
abbrev N__law_free : List Str := ["graph", "done", "k", "one"]
theorem sc__law_free : FnScope N__law_free ["graph", "done"] (defScope s__law_free) := ⟨rfl, rfl, rfl, by decide +kernel, rfl, by decide +kernel, by decide +kernel⟩
abbrev s__law_listed : Stmt := top 23
abbrev N__law_listed : List Str := ["graph", "cores", "order", "done", "steps", "step", "free", "chosen", "one", "k"]
theorem sc__law_listed : FnScope N__law_listed ["graph", "cores", "order"] (defScope s__law_listed) := ⟨rfl, rfl, rfl, by decide +kernel, rfl, by decide +kernel, by decide +kernel⟩
abbrev s__law_drawn : Stmt := top 24
abbrev N__law_drawn : List Str := ["graph", "cores", "cell", "is_full", "draws", "done", "steps", "step", "free", "many", "start", "chosen", "k"]
theorem sc__law_drawn : FnScope N__law_drawn ["graph", "cores", "cell", "is_full"] (defScope s__law_drawn) := ⟨rfl, rfl, rfl, by decide +kernel, rfl, by decide +kernel, by decide +kernel⟩
abbrev s__law_is_schedule : Stmt := top 25
abbrev N__law_is_schedule : List Str := ["graph", "cores", "value", "done", "step", "k", "one"]
theorem sc__law_is_schedule : FnScope N__law_is_schedule ["graph", "cores", "value"] (defScope s__law_is_schedule) := ⟨rfl, rfl, rfl, by decide +kernel, rfl, by decide +kernel, by decide +kernel⟩
abbrev s__law_is_greedy : Stmt := top 26
abbrev N__law_is_greedy : List Str := ["graph", "cores", "schedule", "done", "step"]
theorem sc__law_is_greedy : FnScope N__law_is_greedy ["graph", "cores", "schedule"] (defScope s__law_is_greedy) := ⟨rfl, rfl, rfl, by decide +kernel, rfl, by decide +kernel, by decide +kernel⟩
abbrev s_law : Stmt := top 27
abbrev N_law : List Str := ["script", "cores", "graph", "late", "full", "lone", "schedule", "order", "step", "told", "k"]
theorem sc_law : FnScope N_law ["script"] (defScope s_law) := ⟨rfl, rfl, rfl, by decide +kernel, rfl, by decide +kernel, by decide +kernel⟩
abbrev s_InvalidGraph_init : Stmt := inClass (top 4) 0
theorem sc_InvalidGraph_init : FnScope ["self", "value"] ["self", "value"] (defScope s_InvalidGraph_init) := ⟨rfl, rfl, rfl, by decide +kernel, rfl, by decide +kernel, by decide +kernel⟩
/-! ### what the top has written -/
structure Top (K : Kf) (mg : Str → Option Value) where
  f_is_integer : Addr
  fd_is_integer : FuncData
  F_is_integer : Fun K "is_integer" "is_integer" s_is_integer f_is_integer fd_is_integer
  g_is_integer : mg "is_integer" = some (.ref f_is_integer)
  b_is_integer : Binds K fd_is_integer ["value"] []
  kb_is_integer : KwB K fd_is_integer ["value"]
  f_is_row : Addr
  fd_is_row : FuncData
  F_is_row : Fun K "is_row" "is_row" s_is_row f_is_row fd_is_row
  g_is_row : mg "is_row" = some (.ref f_is_row)
  b_is_row : Binds K fd_is_row ["value", "limit"] []
  kb_is_row : KwB K fd_is_row ["value", "limit"]
  f_is_graph : Addr
  fd_is_graph : FuncData
  F_is_graph : Fun K "is_graph" "is_graph" s_is_graph f_is_graph fd_is_graph
  g_is_graph : mg "is_graph" = some (.ref f_is_graph)
  b_is_graph : Binds K fd_is_graph ["value"] []
  kb_is_graph : KwB K fd_is_graph ["value"]
  f_check_graph : Addr
  fd_check_graph : FuncData
  F_check_graph : Fun K "check_graph" "check_graph" s_check_graph f_check_graph fd_check_graph
  g_check_graph : mg "check_graph" = some (.ref f_check_graph)
  b_check_graph : Binds K fd_check_graph ["graph"] []
  kb_check_graph : KwB K fd_check_graph ["graph"]
  f_nodes_of : Addr
  fd_nodes_of : FuncData
  F_nodes_of : Fun K "nodes_of" "nodes_of" s_nodes_of f_nodes_of fd_nodes_of
  g_nodes_of : mg "nodes_of" = some (.ref f_nodes_of)
  b_nodes_of : Binds K fd_nodes_of ["schedule"] []
  kb_nodes_of : KwB K fd_nodes_of ["schedule"]
  f_is_schedule : Addr
  fd_is_schedule : FuncData
  F_is_schedule : Fun K "is_schedule" "is_schedule" s_is_schedule f_is_schedule fd_is_schedule
  g_is_schedule : mg "is_schedule" = some (.ref f_is_schedule)
  b_is_schedule : Binds K fd_is_schedule ["graph", "cores", "value"] []
  kb_is_schedule : KwB K fd_is_schedule ["graph", "cores", "value"]
  f_is_free : Addr
  fd_is_free : FuncData
  F_is_free : Fun K "is_free" "is_free" s_is_free f_is_free fd_is_free
  g_is_free : mg "is_free" = some (.ref f_is_free)
  b_is_free : Binds K fd_is_free ["graph", "done", "node"] []
  kb_is_free : KwB K fd_is_free ["graph", "done", "node"]
  f_free_nodes : Addr
  fd_free_nodes : FuncData
  F_free_nodes : Fun K "free_nodes" "free_nodes" s_free_nodes f_free_nodes fd_free_nodes
  g_free_nodes : mg "free_nodes" = some (.ref f_free_nodes)
  b_free_nodes : Binds K fd_free_nodes ["graph", "done"] []
  kb_free_nodes : KwB K fd_free_nodes ["graph", "done"]
  f_is_greedy : Addr
  fd_is_greedy : FuncData
  F_is_greedy : Fun K "is_greedy" "is_greedy" s_is_greedy f_is_greedy fd_is_greedy
  g_is_greedy : mg "is_greedy" = some (.ref f_is_greedy)
  b_is_greedy : Binds K fd_is_greedy ["graph", "cores", "schedule"] []
  kb_is_greedy : KwB K fd_is_greedy ["graph", "cores", "schedule"]
  f_listed : Addr
  fd_listed : FuncData
  F_listed : Fun K "listed" "listed" s_listed f_listed fd_listed
  g_listed : mg "listed" = some (.ref f_listed)
  b_listed : Binds K fd_listed ["graph", "cores", "order"] []
  kb_listed : KwB K fd_listed ["graph", "cores", "order"]
  f_cut_down : Addr
  fd_cut_down : FuncData
  F_cut_down : Fun K "cut_down" "cut_down" s_cut_down f_cut_down fd_cut_down
  g_cut_down : mg "cut_down" = some (.ref f_cut_down)
  b_cut_down : Binds K fd_cut_down ["graph", "cores", "schedule"] []
  kb_cut_down : KwB K fd_cut_down ["graph", "cores", "schedule"]
  f__law_whole : Addr
  fd__law_whole : FuncData
  F__law_whole : Fun K "_law_whole" "_law_whole" s__law_whole f__law_whole fd__law_whole
  g__law_whole : mg "_law_whole" = some (.ref f__law_whole)
  b__law_whole : Binds K fd__law_whole ["value"] []
  kb__law_whole : KwB K fd__law_whole ["value"]
  f__law_cell : Addr
  fd__law_cell : FuncData
  F__law_cell : Fun K "_law_cell" "_law_cell" s__law_cell f__law_cell fd__law_cell
  g__law_cell : mg "_law_cell" = some (.ref f__law_cell)
  b__law_cell : Binds K fd__law_cell ["script", "k"] []
  kb__law_cell : KwB K fd__law_cell ["script", "k"]
  f__law_draws : Addr
  fd__law_draws : FuncData
  F__law_draws : Fun K "_law_draws" "_law_draws" s__law_draws f__law_draws fd__law_draws
  g__law_draws : mg "_law_draws" = some (.ref f__law_draws)
  b__law_draws : Binds K fd__law_draws ["cell", "limits"] []
  kb__law_draws : KwB K fd__law_draws ["cell", "limits"]
  f__law_graph : Addr
  fd__law_graph : FuncData
  F__law_graph : Fun K "_law_graph" "_law_graph" s__law_graph f__law_graph fd__law_graph
  g__law_graph : mg "_law_graph" = some (.ref f__law_graph)
  b__law_graph : Binds K fd__law_graph ["script", "start", "most"] []
  kb__law_graph : KwB K fd__law_graph ["script", "start", "most"]
  f__law_free : Addr
  fd__law_free : FuncData
  F__law_free : Fun K "_law_free" "_law_free" s__law_free f__law_free fd__law_free
  g__law_free : mg "_law_free" = some (.ref f__law_free)
  b__law_free : Binds K fd__law_free ["graph", "done"] []
  kb__law_free : KwB K fd__law_free ["graph", "done"]
  f__law_listed : Addr
  fd__law_listed : FuncData
  F__law_listed : Fun K "_law_listed" "_law_listed" s__law_listed f__law_listed fd__law_listed
  g__law_listed : mg "_law_listed" = some (.ref f__law_listed)
  b__law_listed : Binds K fd__law_listed ["graph", "cores", "order"] []
  kb__law_listed : KwB K fd__law_listed ["graph", "cores", "order"]
  f__law_drawn : Addr
  fd__law_drawn : FuncData
  F__law_drawn : Fun K "_law_drawn" "_law_drawn" s__law_drawn f__law_drawn fd__law_drawn
  g__law_drawn : mg "_law_drawn" = some (.ref f__law_drawn)
  b__law_drawn : Binds K fd__law_drawn ["graph", "cores", "cell", "is_full"] []
  kb__law_drawn : KwB K fd__law_drawn ["graph", "cores", "cell", "is_full"]
  f__law_is_schedule : Addr
  fd__law_is_schedule : FuncData
  F__law_is_schedule : Fun K "_law_is_schedule" "_law_is_schedule" s__law_is_schedule f__law_is_schedule fd__law_is_schedule
  g__law_is_schedule : mg "_law_is_schedule" = some (.ref f__law_is_schedule)
  b__law_is_schedule : Binds K fd__law_is_schedule ["graph", "cores", "value"] []
  kb__law_is_schedule : KwB K fd__law_is_schedule ["graph", "cores", "value"]
  f__law_is_greedy : Addr
  fd__law_is_greedy : FuncData
  F__law_is_greedy : Fun K "_law_is_greedy" "_law_is_greedy" s__law_is_greedy f__law_is_greedy fd__law_is_greedy
  g__law_is_greedy : mg "_law_is_greedy" = some (.ref f__law_is_greedy)
  b__law_is_greedy : Binds K fd__law_is_greedy ["graph", "cores", "schedule"] []
  kb__law_is_greedy : KwB K fd__law_is_greedy ["graph", "cores", "schedule"]
  f_law : Addr
  fd_law : FuncData
  F_law : Fun K "law" "law" s_law f_law fd_law
  g_law : mg "law" = some (.ref f_law)
  b_law : Binds K fd_law ["script"] []
  kb_law : KwB K fd_law ["script"]
  n_abs : mg "abs" = none
  n_all : mg "all" = none
  n_bool : mg "bool" = none
  n_enumerate : mg "enumerate" = none
  n_int : mg "int" = none
  n_isinstance : mg "isinstance" = none
  n_len : mg "len" = none
  n_list : mg "list" = none
  n_max : mg "max" = none
  n_min : mg "min" = none
  n_range : mg "range" = none
  n_repr : mg "repr" = none
  n_set : mg "set" = none
  n_sorted : mg "sorted" = none
  n_tuple : mg "tuple" = none
  C_InvalidGraph : Addr
  fI_InvalidGraph : Addr
  fdI_InvalidGraph : FuncData
  g_InvalidGraph : mg "InvalidGraph" = some (.ref C_InvalidGraph)
  O_InvalidGraph : OexC K C_InvalidGraph
  X_InvalidGraph : XfC K C_InvalidGraph
  iC_InvalidGraph : W.findIn K (.ref C_InvalidGraph) "__init__" = some (some (.ref fI_InvalidGraph))
  tI_InvalidGraph : W.typeIn K (.ref fI_InvalidGraph) = some (.type "function")
  FI_InvalidGraph : Fun K "__init__" "InvalidGraph.__init__" s_InvalidGraph_init fI_InvalidGraph fdI_InvalidGraph
  bI_InvalidGraph : Binds K fdI_InvalidGraph ["self", "value"] []
  em_InvalidGraph : W.exmOne K (.ref C_InvalidGraph) (.ref C_InvalidGraph) = some true
  no_InvalidGraph_value : W.findIn K (.ref C_InvalidGraph) "value" = some none
/-! ### the mirror -/
noncomputable def m_is_integer : M Ct := mRet (mBV (mAndT (mB (mIsi .tInt (mVar 0))) (mB (mBV (mNotT (mB (mIsi .tBool (mVar 0))))))))
noncomputable def F_is_integer : Fm := runF 1 1 m_is_integer
noncomputable def m_is_row : M Ct := mSeq (mIfS (mNotT (mB (mIsi .tTuple (mVar 0)))) (mRet (mC (.bool false))) (mNx)) (mSeq (mIfS (mNotT (mB (mCallD (d1 dAll) (mCons (mLc (.nm 2) [2] (mVar 0) (mYes) (mBV (mAndT (mB (mCall F_is_integer (mCons (mVar 2) (mNil)))) (mB (mChain dLe dLt (mC (.int 0)) (mVar 2) (mVar 1)))))) (mNil))))) (mRet (mC (.bool false))) (mNx)) (mRet (mOp2 dEq (mCallD (d1 dList) (mCons (mVar 0) (mNil))) (mSortSetI (mVar 0)))))
noncomputable def F_is_row : Fm := runF 2 3 m_is_row
noncomputable def m_is_graph : M Ct := mRet (mBV (mAndT (mB (mIsi .tTuple (mVar 0))) (mB (mCallD (d1 dAll) (mCons (mLcE (.tp [1, 2]) [1, 2] (mVar 0) (mYes) (mCall F_is_row (mCons (mVar 2) (mCons (mVar 1) (mNil))))) (mNil))))))
noncomputable def F_is_graph : Fm := runF 1 3 m_is_graph
noncomputable def m_check_graph : M Ct := mIfS (mNotT (mB (mCall F_is_graph (mCons (mVar 0) (mNil))))) (mRaise "InvalidGraph" ["value"] (mCons (mVar 0) (mNil))) (mNx)
noncomputable def F_check_graph : Fm := runF 1 1 m_check_graph
noncomputable def m_nodes_of : M Ct := mRet (mLc2 (.nm 1) [1, 2] (mVar 0) (mYes) (.nm 2) [2] (mVar 1) (mYes) (mVar 2))
noncomputable def F_nodes_of : Fm := runF 1 3 m_nodes_of
noncomputable def m_is_schedule : M Ct := mSeq (mExpr (mCall F_check_graph (mCons (mVar 0) (mNil)))) (mSeq (mIfS (mNotT (mB (mIsi .tTuple (mVar 2)))) (mRet (mC (.bool false))) (mNx)) (mSeq (mIfS (mNotT (mB (mCallD (d1 dAll) (mCons (mLc (.nm 4) [4] (mVar 2) (mYes) (mBV (mAndT (mB (mCall F_is_row (mCons (mVar 4) (mCons (mCallD (d1 dLen) (mCons (mVar 0) (mNil))) (mNil))))) (mB (mOp2 dLe (mCallD (d1 dLen) (mCons (mVar 4) (mNil))) (mVar 1)))))) (mNil))))) (mRet (mC (.bool false))) (mNx)) (mSeq (mIfS (mB (mOp2 dNe (mCallD (d1 dSorted) (mCons (mCall F_nodes_of (mCons (mVar 2) (mNil))) (mNil))) (mLRange (mCallD (d1 dLen) (mCons (mVar 0) (mNil)))))) (mRet (mC (.bool false))) (mNx)) (mSeq (mSet 3 (mDc2E (.tp [5, 4]) [5, 4, 6] (mVar 2) (mYes) (.nm 6) [6] (mVar 4) (mYes) (mVar 6) (mVar 5))) (mRet (mCallD (d1 dAll) (mCons (mLc2E (.tp [6, 7]) [6, 7, 8] (mVar 0) (mYes) (.nm 8) [8] (mVar 7) (mYes) (mOp2 dLt (mOp2 dIx (mVar 3) (mVar 8)) (mOp2 dIx (mVar 3) (mVar 6)))) (mNil))))))))
noncomputable def F_is_schedule : Fm := runF 3 9 m_is_schedule
noncomputable def m_is_free : M Ct := mRet (mCallD (d1 dAll) (mCons (mLc (.nm 3) [3] (mOp2 dIx (mVar 0) (mVar 2)) (mYes) (mOp2 dInK (mVar 3) (mVar 1))) (mNil)))
noncomputable def F_is_free : Fm := runF 3 4 m_is_free
noncomputable def m_free_nodes : M Ct := mRet (mLcR (.nm 2) [2] (mCons (mCallD (d1 dLen) (mCons (mVar 0) (mNil))) (mNil)) (mAndT (mB (mOp2 dNinK (mVar 2) (mVar 1))) (mB (mCall F_is_free (mCons (mVar 0) (mCons (mVar 1) (mCons (mVar 2) (mNil))))))) (mVar 2))
noncomputable def F_free_nodes : Fm := runF 2 3 m_free_nodes
noncomputable def m_is_greedy : M Ct := mSeq (mIfS (mNotT (mB (mCall F_is_schedule (mCons (mVar 0) (mCons (mVar 1) (mCons (mVar 2) (mNil))))))) (mRet (mC (.bool false))) (mNx)) (mSeq (mSet 3 (mpure (.own (.dct [])))) (mSeq (mFor (.nm 4) [] (mVar 2) (mSeq (mIfS (mOrT (mB (mOp2 dEq (mCallD (d1 dLen) (mCons (mVar 4) (mNil))) (mC (.int 0)))) (mAndT (mB (mOp2 dLt (mCallD (d1 dLen) (mCons (mVar 4) (mNil))) (mVar 1))) (mB (mOp2 dLt (mCallD (d1 dLen) (mCons (mVar 4) (mNil))) (mCallD (d1 dLen) (mCons (mCall F_free_nodes (mCons (mVar 0) (mCons (mVar 3) (mNil)))) (mNil))))))) (mRet (mC (.bool false))) (mNx)) (mUpd 3 (mDc (.nm 5) [5] (mVar 4) (mYes) (mVar 5) (mC (.bool true)))))) (mRet (mC (.bool true)))))
noncomputable def F_is_greedy : Fm := runF 3 6 m_is_greedy
noncomputable def m_listed : M Ct := mSeq (mExpr (mCall F_check_graph (mCons (mVar 0) (mNil)))) (mSeq (mSet 3 (mLst (mNil))) (mSeq (mSet 4 (mpure (.own (.dct [])))) (mSeq (mSet 5 (mCallD (d1 dList) (mCons (mVar 2) (mNil)))) (mSeq (mWhile 64 (mTru (mVar 5)) (mSeq (mSet 6 (mSl2 (mLc (.nm 7) [7] (mVar 5) (mB (mCall F_is_free (mCons (mVar 0) (mCons (mVar 4) (mCons (mVar 7) (mNil)))))) (mVar 7)) none (some (mVar 1)))) (mSeq (mAppend 3 (mCallD (d1 dTuple) (mCons (mCallD (d1 dSorted) (mCons (mVar 6) (mNil))) (mNil)))) (mSeq (mUpd 4 (mDc (.nm 7) [7] (mVar 6) (mYes) (mVar 7) (mC (.bool true)))) (mSet 5 (mLc (.nm 7) [7] (mVar 5) (mB (mOp2 dNinK (mVar 7) (mVar 4))) (mVar 7))))))) (mRet (mCallD (d1 dTuple) (mCons (mVar 3) (mNil))))))))
noncomputable def F_listed : Fm := runF 3 8 m_listed
noncomputable def m_cut_down : M Ct := mRet (mCall F_listed (mCons (mVar 0) (mCons (mVar 1) (mCons (mCall F_nodes_of (mCons (mVar 2) (mNil))) (mNil)))))
noncomputable def F_cut_down : Fm := runF 3 3 m_cut_down
noncomputable def m__law_whole : M Ct := mRet (mBV (mAndT (mB (mIsi .tInt (mVar 0))) (mB (mBV (mNotT (mB (mIsi .tBool (mVar 0))))))))
noncomputable def F__law_whole : Fm := runF 1 1 m__law_whole
noncomputable def m__law_cell : M Ct := mSeq (mIfS (mB (mOp2 dLt (mVar 1) (mCallD (d1 dLen) (mCons (mVar 0) (mNil))))) (mRet (mOp2 dIx (mVar 0) (mVar 1))) (mNx)) (mSeq (mSet 2 (mC (.int 17))) (mSeq (mFor (.nm 3) [2] (mSl2 (mVar 0) none (some (mC (.int 3)))) (mSet 2 (mOp2 dMod (mCallD (d1 dInt) (mCons (mOp2 dAdd (mOp2 dMulL (mVar 2) (mC (.int 1009))) (mVar 3)) (mNil))) (mC (.int 999983))))) (mRet (mOp2 dAdd (mOp2 dMulL (mVar 2) (mC (.int 64))) (mVar 1)))))
noncomputable def F__law_cell : Fm := runF 2 4 m__law_cell
noncomputable def m__law_draws : M Ct := mSeq (mSet 2 (mCallD (d1 dAbs) (mCons (mVar 0) (mNil)))) (mSeq (mSet 3 (mOp2 dGe (mVar 2) (mOp2 dPow (mC (.int 10)) (mC (.int 18))))) (mSeq (mIfS (mTru (mVar 3)) (mSet 2 (mOp2 dSub (mVar 2) (mOp2 dPow (mC (.int 10)) (mC (.int 18))))) (mIfS (mB (mOp2 dLt (mVar 0) (mC (.int 0)))) (mSet 2 (mOp2 dAdd (mVar 2) (mC (.int 500009)))) (mNx))) (mSeq (mSet 4 (mLst (mNil))) (mSeq (mForR1 (.nm 5) (mCons (mCallD (d1 dLen) (mCons (mVar 1) (mNil))) (mNil)) (mIfS (mTru (mVar 3)) (mSeq (mAppend 4 (mOp2 dMod (mCallD (d1 dInt) (mCons (mVar 2) (mNil))) (mOp2 dIx (mVar 1) (mVar 5)))) (mSet 2 (mOp2 dDiv (mVar 2) (mOp2 dIx (mVar 1) (mVar 5))))) (mSeq (mSet 6 (mOp2 dMod (mCallD (d1 dInt) (mCons (mOp2 dAdd (mOp2 dMulL (mVar 2) (mC (.int 48271))) (mOp2 dMulL (mOp2 dAdd (mVar 5) (mC (.int 1))) (mC (.int 69621)))) (mNil))) (mC (.int 2147483647)))) (mSeq (mSet 6 (mOp2 dMod (mCallD (d1 dInt) (mCons (mOp2 dAdd (mOp2 dMulL (mVar 6) (mC (.int 40692))) (mOp2 dMulL (mOp2 dDiv (mVar 6) (mC (.int 3791))) (mOp2 dAdd (mVar 5) (mC (.int 5))))) (mNil))) (mC (.int 2147483399)))) (mAppend 4 (mOp2 dMod (mCallD (d1 dInt) (mCons (mOp2 dDiv (mVar 6) (mC (.int 7))) (mNil))) (mOp2 dIx (mVar 1) (mVar 5)))))))) (mRet (mVar 4))))))
noncomputable def F__law_draws : Fm := runF 2 7 m__law_draws
noncomputable def m__law_graph : M Ct := mSeq (mSet 3 (mCall F__law_draws (mCons (mCall F__law_cell (mCons (mVar 0) (mCons (mVar 1) (mNil)))) (mCons (mLst (mCons (mOp2 dAdd (mVar 2) (mC (.int 1))) (mCons (mC (.int 4)) (mNil)))) (mNil))))) (mSeq (mSet 4 (mLst (mNil))) (mSeq (mForR1 (.nm 5) (mCons (mOp2 dIx (mVar 3) (mC (.int 0))) (mNil)) (mSeq (mSet 6 (mCall F__law_draws (mCons (mCall F__law_cell (mCons (mVar 0) (mCons (mOp2 dAdd (mOp2 dAdd (mVar 1) (mC (.int 1))) (mVar 5)) (mNil)))) (mCons (mOp2 dAdd (mLst (mCons (mOp2 dAdd (mC (.int 3)) (mOp2 dIx (mVar 3) (mC (.int 1)))) (mNil))) (mOp2 dMulL (mLst (mCons (mCallD dMax2 (mCons (mC (.int 1)) (mCons (mVar 5) (mNil)))) (mNil))) (mC (.int 3)))) (mNil))))) (mSeq (mSet 7 (mLst (mNil))) (mSeq (mFor (.nm 8) [] (mSl2 (mVar 6) (some (mC (.int 1))) (some (mOp2 dAdd (mC (.int 1)) (mCallD dMin2 (mCons (mC (.int 3)) (mCons (mOp2 dIx (mVar 6) (mC (.int 0))) (mNil))))))) (mIfS (mAndT (mB (mOp2 dGt (mVar 5) (mC (.int 0)))) (mB (mOp2 dNin (mVar 8) (mVar 7)))) (mInsert 7 (mCallD (d1 dLen) (mCons (mLc (.nm 9) [9] (mVar 7) (mB (mOp2 dLt (mVar 9) (mVar 8))) (mVar 9)) (mNil))) (mVar 8)) (mNx))) (mAppend 4 (mCallD (d1 dTuple) (mCons (mVar 7) (mNil)))))))) (mRet (mCallD (d1 dTuple) (mCons (mVar 4) (mNil))))))
noncomputable def F__law_graph : Fm := runF 3 10 m__law_graph
noncomputable def m__law_free : M Ct := mRet (mLcR (.nm 2) [2] (mCons (mCallD (d1 dLen) (mCons (mVar 0) (mNil))) (mNil)) (mAndT (mB (mOp2 dNin (mVar 2) (mVar 1))) (mB (mOp2 dEq (mLc (.nm 3) [3] (mOp2 dIx (mVar 0) (mVar 2)) (mB (mOp2 dNin (mVar 3) (mVar 1))) (mVar 3)) (mLst (mNil))))) (mVar 2))
noncomputable def F__law_free : Fm := runF 2 4 m__law_free
noncomputable def m__law_listed : M Ct := mSeq (mSet 3 (mLst (mNil))) (mSeq (mSet 4 (mLst (mNil))) (mSeq (mForR1 (.nm 5) (mCons (mCallD (d1 dLen) (mCons (mVar 0) (mNil))) (mNil)) (mSeq (mSet 6 (mCall F__law_free (mCons (mVar 0) (mCons (mVar 3) (mNil))))) (mSeq (mIfS (mB (mOp2 dEq (mVar 6) (mLst (mNil)))) (mpure .bk) (mNx)) (mSeq (mSet 7 (mSl2 (mLc (.nm 8) [8] (mVar 2) (mB (mOp2 dIn (mVar 8) (mVar 6))) (mVar 8)) none (some (mVar 1)))) (mSeq (mAppend 4 (mCallD (d1 dTuple) (mCons (mLcR (.nm 9) [9] (mCons (mCallD (d1 dLen) (mCons (mVar 0) (mNil))) (mNil)) (mB (mOp2 dIn (mVar 9) (mVar 7))) (mVar 9)) (mNil)))) (mSet 3 (mOp2 dAdd (mVar 3) (mVar 7)))))))) (mRet (mCallD (d1 dTuple) (mCons (mVar 4) (mNil))))))
noncomputable def F__law_listed : Fm := runF 3 10 m__law_listed
noncomputable def m__law_drawn : M Ct := mSeq (mSet 4 (mCall F__law_draws (mCons (mVar 2) (mCons (mOp2 dMulL (mLst (mCons (mC (.int 7)) (mCons (mC (.int 97)) (mNil)))) (mC (.int 40))) (mNil))))) (mSeq (mSet 5 (mLst (mNil))) (mSeq (mSet 6 (mLst (mNil))) (mSeq (mForR1 (.nm 7) (mCons (mC (.int 40)) (mNil)) (mSeq (mSet 8 (mCall F__law_free (mCons (mVar 0) (mCons (mVar 5) (mNil))))) (mSeq (mIfS (mAndT (mB (mOp2 dEq (mVar 8) (mLst (mNil)))) (mB (mOp2 dEq (mCallD (d1 dLen) (mCons (mVar 5) (mNil))) (mCallD (d1 dLen) (mCons (mVar 0) (mNil)))))) (mpure .bk) (mNx)) (mSeq (mSet 9 (mCallD dMin3 (mCons (mC (.int 6)) (mCons (mVar 1) (mCons (mCallD (d1 dLen) (mCons (mVar 8) (mNil))) (mNil)))))) (mSeq (mIfS (mAndT (mNotT (mTru (mVar 3))) (mB (mOp2 dLt (mVar 7) (mC (.int 20))))) (mSet 9 (mCallD dMin2 (mCons (mVar 9) (mCons (mOp2 dIx (mVar 4) (mOp2 dMulL (mC (.int 2)) (mVar 7))) (mNil))))) (mNx)) (mSeq (mSet 10 (mOp2 dMod (mCallD (d1 dInt) (mCons (mOp2 dIx (mVar 4) (mOp2 dAdd (mOp2 dMulL (mC (.int 2)) (mVar 7)) (mC (.int 1)))) (mNil))) (mCallD dMax2 (mCons (mC (.int 1)) (mCons (mCallD (d1 dLen) (mCons (mVar 8) (mNil))) (mNil)))))) (mSeq (mSet 11 (mSl2 (mOp2 dAdd (mSl2 (mVar 8) (some (mVar 10)) none) (mSl2 (mVar 8) none (some (mVar 10)))) none (some (mVar 9)))) (mSeq (mAppend 6 (mCallD (d1 dTuple) (mCons (mLcR (.nm 12) [12] (mCons (mCallD (d1 dLen) (mCons (mVar 0) (mNil))) (mNil)) (mB (mOp2 dIn (mVar 12) (mVar 11))) (mVar 12)) (mNil)))) (mSet 5 (mOp2 dAdd (mVar 5) (mVar 11))))))))))) (mRet (mCallD (d1 dTuple) (mCons (mVar 6) (mNil)))))))
noncomputable def F__law_drawn : Fm := runF 4 13 m__law_drawn
noncomputable def m__law_is_schedule : M Ct := mSeq (mIfS (mNotT (mB (mIsi .tTuple (mVar 2)))) (mRet (mC (.bool false))) (mNx)) (mSeq (mSet 3 (mLst (mNil))) (mSeq (mFor (.nm 4) [3, 5] (mVar 2) (mSeq (mIfS (mOrT (mNotT (mB (mIsi .tTuple (mVar 4)))) (mB (mOp2 dGt (mCallD (d1 dLen) (mCons (mVar 4) (mNil))) (mVar 1)))) (mRet (mC (.bool false))) (mNx)) (mSeq (mForR1 (.nm 5) (mCons (mCallD (d1 dLen) (mCons (mVar 4) (mNil))) (mNil)) (mSeq (mIfS (mOrT (mNotT (mB (mCall F__law_whole (mCons (mOp2 dIx (mVar 4) (mVar 5)) (mNil))))) (mOrT (mB (mOp2 dLt (mOp2 dIx (mVar 4) (mVar 5)) (mC (.int 0)))) (mOrT (mB (mOp2 dGe (mOp2 dIx (mVar 4) (mVar 5)) (mCallD (d1 dLen) (mCons (mVar 0) (mNil))))) (mAndT (mB (mOp2 dGt (mVar 5) (mC (.int 0)))) (mB (mOp2 dGe (mOp2 dIx (mVar 4) (mOp2 dSub (mVar 5) (mC (.int 1)))) (mOp2 dIx (mVar 4) (mVar 5)))))))) (mRet (mC (.bool false))) (mNx)) (mIfS (mOrT (mB (mOp2 dIn (mOp2 dIx (mVar 4) (mVar 5)) (mVar 3))) (mB (mOp2 dNe (mLc (.nm 6) [6] (mOp2 dIx (mVar 0) (mOp2 dIx (mVar 4) (mVar 5))) (mB (mOp2 dNin (mVar 6) (mVar 3))) (mVar 6)) (mLst (mNil))))) (mRet (mC (.bool false))) (mNx)))) (mSet 3 (mOp2 dAdd (mVar 3) (mCallD (d1 dList) (mCons (mVar 4) (mNil)))))))) (mRet (mOp2 dEq (mCallD (d1 dLen) (mCons (mVar 3) (mNil))) (mCallD (d1 dLen) (mCons (mVar 0) (mNil)))))))
noncomputable def F__law_is_schedule : Fm := runF 3 7 m__law_is_schedule
noncomputable def m__law_is_greedy : M Ct := mSeq (mSet 3 (mLst (mNil))) (mSeq (mFor (.nm 4) [3] (mVar 2) (mSeq (mIfS (mOrT (mB (mOp2 dEq (mCallD (d1 dLen) (mCons (mVar 4) (mNil))) (mC (.int 0)))) (mB (mOp2 dLt (mCallD (d1 dLen) (mCons (mVar 4) (mNil))) (mCallD dMin3 (mCons (mC (.int 6)) (mCons (mVar 1) (mCons (mCallD (d1 dLen) (mCons (mCall F__law_free (mCons (mVar 0) (mCons (mVar 3) (mNil)))) (mNil))) (mNil)))))))) (mRet (mC (.bool false))) (mNx)) (mSet 3 (mOp2 dAdd (mVar 3) (mCallD (d1 dList) (mCons (mVar 4) (mNil))))))) (mRet (mC (.bool true))))
noncomputable def F__law_is_greedy : Fm := runF 3 5 m__law_is_greedy
noncomputable def m_law : M Ct := mSeq (mSet 1 (mOp2 dAdd (mC (.int 1)) (mOp2 dIx (mCall F__law_draws (mCons (mCall F__law_cell (mCons (mVar 0) (mCons (mC (.int 0)) (mNil)))) (mCons (mLst (mCons (mC (.int 6)) (mNil))) (mNil)))) (mC (.int 0))))) (mSeq (mSet 2 (mCall F__law_graph (mCons (mVar 0) (mCons (mC (.int 1)) (mCons (mC (.int 11)) (mNil)))))) (mSeq (mSet 3 (mCall F__law_drawn (mCons (mVar 2) (mCons (mVar 1) (mCons (mCall F__law_cell (mCons (mVar 0) (mCons (mC (.int 14)) (mNil)))) (mCons (mC (.bool false)) (mNil))))))) (mSeq (mSet 4 (mCall F__law_drawn (mCons (mVar 2) (mCons (mVar 1) (mCons (mCall F__law_cell (mCons (mVar 0) (mCons (mC (.int 15)) (mNil)))) (mCons (mC (.bool true)) (mNil))))))) (mSeq (mSet 5 (mCallD (d1 dTuple) (mCons (mLcR (.nm 10) [10] (mCons (mCallD (d1 dLen) (mCons (mVar 2) (mNil))) (mNil)) (mYes) (mTup (mCons (mVar 10) (mNil)))) (mNil)))) (mSeq (mFor (.nm 6) [7, 8, 9] (mLst (mCons (mVar 3) (mCons (mVar 4) (mCons (mVar 5) (mCons (mOp2 dAdd (mVar 3) (mTup (mCons (mTup (mNil)) (mCons (mTup (mNil)) (mNil))))) (mNil)))))) (mSeq (mIfS (mNotT (mB (mCall F__law_is_schedule (mCons (mVar 2) (mCons (mVar 1) (mCons (mVar 6) (mNil))))))) (mRet (mC (.bool false))) (mNx)) (mSeq (mSet 7 (mLst (mNil))) (mSeq (mFor (.nm 8) [7] (mVar 6) (mSet 7 (mOp2 dAdd (mVar 7) (mCallD (d1 dList) (mCons (mVar 8) (mNil)))))) (mSeq (mSet 9 (mCall F_cut_down (mCons (mVar 2) (mCons (mVar 1) (mCons (mVar 6) (mNil)))))) (mSeq (mIfS (mOrT (mB (mOp2 dNe (mCallD (d1 dRepr) (mCons (mVar 9) (mNil))) (mCallD (d1 dRepr) (mCons (mCall F__law_listed (mCons (mVar 2) (mCons (mVar 1) (mCons (mVar 7) (mNil))))) (mNil))))) (mB (mOp2 dGt (mCallD (d1 dLen) (mCons (mVar 9) (mNil))) (mCallD (d1 dLen) (mCons (mVar 6) (mNil)))))) (mRet (mC (.bool false))) (mNx)) (mSeq (mIfS (mOrT (mNotT (mB (mCall F__law_is_schedule (mCons (mVar 2) (mCons (mVar 1) (mCons (mVar 9) (mNil))))))) (mNotT (mB (mCall F__law_is_greedy (mCons (mVar 2) (mCons (mVar 1) (mCons (mVar 9) (mNil)))))))) (mRet (mC (.bool false))) (mNx)) (mIfS (mOrT (mB (mOp2 dNis (mCall F_is_schedule (mCons (mVar 2) (mCons (mVar 1) (mCons (mVar 9) (mNil))))) (mC (.bool true)))) (mB (mOp2 dNis (mCall F_is_greedy (mCons (mVar 2) (mCons (mVar 1) (mCons (mVar 9) (mNil))))) (mC (.bool true))))) (mRet (mC (.bool false))) (mNx))))))))) (mRet (mC (.bool true))))))))
noncomputable def F_law : Fm := runF 1 11 m_law
/-! ### each def keeps it -/
section
variable {P : Program} {w : World} {K : Kf} {mg : Str → Option Value} {base : Heap}
theorem ex_InvalidGraph (T : Top K mg) : ∀ (y : Str) (b : Bool), ([("InvalidGraph", true)] : List (Str × Bool)).lookup y = some b → ∃ Cy, mg y = some (.ref Cy) ∧ W.exmOne K (.ref Cy) (.ref T.C_InvalidGraph) = some b := ex_one T.g_InvalidGraph T.em_InvalidGraph
theorem ok_init_InvalidGraph (T : Top K mg) : FnOk P w K mg base (L2N.CX P w) 1 T.fI_InvalidGraph T.fdI_InvalidGraph ["self", "value"] (spI T.C_InvalidGraph ["value"]) := ok_init1 T.FI_InvalidGraph sc_InvalidGraph_init rfl rfl T.O_InvalidGraph T.no_InvalidGraph_value fun cdv A outer s H E => pss_one (ps_ost (pe_var rfl (by first | exact .inl rfl | exact .inr rfl | exact .inr (.inl rfl) | exact .inr (.inr rfl))) (pe_var rfl (by first | exact .inl rfl | exact .inr rfl | exact .inr (.inl rfl) | exact .inr (.inr rfl))))
theorem ok_is_integer (T : Top K mg) : FnOk P w K mg base (L2N.CX P w) 1 T.f_is_integer T.fd_is_integer ["value"] (spF K mg 1 F_is_integer) :=
  fn_mir (N := N_is_integer) (m := m_is_integer) T.F_is_integer sc_is_integer fun cdv A outer s H E B hr => by
    have nd := sc_is_integer.nd
    have hu65 := hr_65 hr
    have hu64 := hr_64 hr
    have hu1 := hr_1 hr
    exact (js_one (js_ret (je_and (je_isi .tInt rfl (je_var rfl 0) (by rfl) (by rfl) T.n_isinstance (by rfl) T.n_int (by decide +kernel)) (je_one (je_not (je_isi .tBool rfl (je_var rfl 0) (by rfl) (by rfl) T.n_isinstance (by rfl) T.n_bool (by decide +kernel)))))))
theorem ok_is_row (T : Top K mg) : FnOk P w K mg base (L2N.CX P w) 2 T.f_is_row T.fd_is_row ["value", "limit"] (spF K mg 2 F_is_row) :=
  fn_mir (N := N_is_row) (m := m_is_row) T.F_is_row sc_is_row fun cdv A outer s H E B hr => by
    have nd := sc_is_row.nd
    have hu65 := hr_65 hr
    have hu64 := hr_64 hr
    have hu1 := hr_1 hr
    exact (js_cons (js_if (jt_not (jt_val (je_isi .tTuple rfl (je_var rfl 0) (by rfl) (by rfl) T.n_isinstance (by rfl) T.n_tuple (by decide +kernel)))) (js_one (js_ret (je_bl))) (js_nil)) (js_cons (js_if (jt_not (jt_val (je_callB (cr_all (by rfl)) fit_all (by rfl) T.n_all (by decide +kernel) (ja_cons (je_lc (tg := (.nm 2)) (own := [("node", 2)]) (by rfl) nd rfl (je_var rfl 0) (blkOk_by (N := N_is_row) (sc := (defScope s_is_row)) (own := [("node", 2)]) (by decide +kernel)) ⟨fun _ _ _ _ _ => pg_name (i := 2) nd rfl (by first | exact .inl rfl | exact .inr rfl | exact .inr (.inl rfl) | exact .inr (.inr rfl)), fun _ _ _ _ _ _ _ => jts_nil, fun _ _ _ _ _ _ _ => je_and (je_call (ok_is_integer T) (hr.mono (by decide)) (takes_no fun _ _ _ _ h => h) (by rfl) T.g_is_integer T.F_is_integer.kp T.b_is_integer (argN_cons argN_nil) (ja_cons (je_var rfl 2) (ja_nil))) (je_one (je_chain op_leA op_ltA fit_le fit_lt quiet_le flat_le (je_int) (je_var rfl 2) (je_var rfl 1)))⟩ (by decide)) (ja_nil))))) (js_one (js_ret (je_bl))) (js_nil)) (js_one (js_ret (je_cmp (op_eqA hu64) fit_eq (je_callTy call_list_of fit_list (by rfl) T.n_list (by decide +kernel) (ja_cons (je_var rfl 0) (ja_nil))) (je_sortedSetI (by rfl) rfl (by rfl) T.n_sorted (by rfl) T.n_set (je_var rfl 0)))))))
theorem ok_is_graph (T : Top K mg) : FnOk P w K mg base (L2N.CX P w) 3 T.f_is_graph T.fd_is_graph ["value"] (spF K mg 1 F_is_graph) :=
  fn_mir (N := N_is_graph) (m := m_is_graph) T.F_is_graph sc_is_graph fun cdv A outer s H E B hr => by
    have nd := sc_is_graph.nd
    have hu65 := hr_65 hr
    have hu64 := hr_64 hr
    have hu1 := hr_1 hr
    exact (js_one (js_ret (je_and (je_isi .tTuple rfl (je_var rfl 0) (by rfl) (by rfl) T.n_isinstance (by rfl) T.n_tuple (by decide +kernel)) (je_one (je_callB (cr_all (by rfl)) fit_all (by rfl) T.n_all (by decide +kernel) (ja_cons (je_lcE (tg := (.tp [1, 2])) (own := [("node", 1), ("row", 2)]) (by rfl) nd rfl (by rfl) T.n_enumerate (je_var rfl 0) (blkOk_by (N := N_is_graph) (sc := (defScope s_is_graph)) (own := [("node", 1), ("row", 2)]) (by decide +kernel)) ⟨fun _ _ _ _ _ => pg_tup (by rfl) (pgs_cons (pg_name (i := 1) nd rfl (by first | exact .inl rfl | exact .inr rfl | exact .inr (.inl rfl) | exact .inr (.inr rfl))) (pgs_cons (pg_name (i := 2) nd rfl (by first | exact .inl rfl | exact .inr rfl | exact .inr (.inl rfl) | exact .inr (.inr rfl))) (pgs_nil))), fun _ _ _ _ _ _ _ => jts_nil, fun _ _ _ _ _ _ _ => je_call (ok_is_row T) (hr.mono (by decide)) (takes_no fun _ _ _ _ h => h) (by rfl) T.g_is_row T.F_is_row.kp T.b_is_row (argN_cons (argN_cons argN_nil)) (ja_cons (je_var rfl 2) (ja_cons (je_var rfl 1) (ja_nil)))⟩ (by decide)) (ja_nil)))))))
theorem ok_check_graph (T : Top K mg) : FnOk P w K mg base (L2N.CX P w) 4 T.f_check_graph T.fd_check_graph ["graph"] (spF K mg 1 F_check_graph) :=
  fn_mir (N := N_check_graph) (m := m_check_graph) T.F_check_graph sc_check_graph fun cdv A outer s H E B hr => by
    have nd := sc_check_graph.nd
    have hu65 := hr_65 hr
    have hu64 := hr_64 hr
    have hu1 := hr_1 hr
    exact (js_one (js_if (jt_not (jt_val (je_call (ok_is_graph T) (hr.mono (by decide)) (L2N.takes_of rfl rfl rfl rfl) (by rfl) T.g_is_graph T.F_is_graph.kp T.b_is_graph (argN_cons argN_nil) (ja_cons (je_var rfl 0) (ja_nil))))) (js_one (js_raise (by rfl) (L2N.takes_of rfl rfl rfl rfl) T.O_InvalidGraph T.iC_InvalidGraph T.tI_InvalidGraph (ok_init_InvalidGraph T) (hr.mono (by decide)) T.bI_InvalidGraph rfl (argN_cons argN_nil) (by decide) (by rfl) T.g_InvalidGraph (ja_cons (je_var rfl 0) (ja_nil)))) (js_nil)))
theorem ok_nodes_of (T : Top K mg) : FnOk P w K mg base (L2N.CX P w) 1 T.f_nodes_of T.fd_nodes_of ["schedule"] (spF K mg 1 F_nodes_of) :=
  fn_mir (N := N_nodes_of) (m := m_nodes_of) T.F_nodes_of sc_nodes_of fun cdv A outer s H E B hr => by
    have nd := sc_nodes_of.nd
    have hu65 := hr_65 hr
    have hu64 := hr_64 hr
    have hu1 := hr_1 hr
    exact (js_one (js_ret (je_lc2 (tg := (.nm 1)) (tg1 := (.nm 2)) (vs1 := [2]) (own := [("step", 1), ("node", 2)]) (by rfl) nd rfl (je_var rfl 0) (blkOk_by (N := N_nodes_of) (sc := (defScope s_nodes_of)) (own := [("step", 1), ("node", 2)]) (by decide +kernel)) (by decide) ⟨fun _ _ _ _ _ => pg_name (i := 1) nd rfl (by first | exact .inl rfl | exact .inr rfl | exact .inr (.inl rfl) | exact .inr (.inr rfl)), fun _ _ _ _ _ _ _ => jts_nil, fun _ _ _ _ _ => pg_name (i := 2) nd rfl (by first | exact .inl rfl | exact .inr rfl | exact .inr (.inl rfl) | exact .inr (.inr rfl)), fun _ _ _ _ _ _ _ => je_var rfl 1, fun _ _ _ _ _ _ _ => jts_nil, fun _ _ _ _ _ _ _ => je_var rfl 2⟩ (by decide) (by decide))))
theorem ok_is_schedule (T : Top K mg) : FnOk P w K mg base (L2N.CX P w) 5 T.f_is_schedule T.fd_is_schedule ["graph", "cores", "value"] (spF K mg 3 F_is_schedule) :=
  fn_mir (N := N_is_schedule) (m := m_is_schedule) T.F_is_schedule sc_is_schedule fun cdv A outer s H E B hr => by
    have nd := sc_is_schedule.nd
    have hu65 := hr_65 hr
    have hu64 := hr_64 hr
    have hu1 := hr_1 hr
    exact (js_cons (js_expr (je_call (ok_check_graph T) (hr.mono (by decide)) (L2N.takes_of rfl rfl rfl rfl) (by rfl) T.g_check_graph T.F_check_graph.kp T.b_check_graph (argN_cons argN_nil) (ja_cons (je_var rfl 0) (ja_nil)))) (js_cons (js_if (jt_not (jt_val (je_isi .tTuple rfl (je_var rfl 2) (by rfl) (by rfl) T.n_isinstance (by rfl) T.n_tuple (by decide +kernel)))) (js_one (js_ret (je_bl))) (js_nil)) (js_cons (js_if (jt_not (jt_val (je_callB (cr_all (by rfl)) fit_all (by rfl) T.n_all (by decide +kernel) (ja_cons (je_lc (tg := (.nm 4)) (own := [("step", 4)]) (by rfl) nd rfl (je_var rfl 2) (blkOk_by (N := N_is_schedule) (sc := (defScope s_is_schedule)) (own := [("step", 4)]) (by decide +kernel)) ⟨fun _ _ _ _ _ => pg_name (i := 4) nd rfl (by first | exact .inl rfl | exact .inr rfl | exact .inr (.inl rfl) | exact .inr (.inr rfl)), fun _ _ _ _ _ _ _ => jts_nil, fun _ _ _ _ _ _ _ => je_and (je_call (ok_is_row T) (hr.mono (by decide)) (takes_no fun _ _ _ _ h => h) (by rfl) T.g_is_row T.F_is_row.kp T.b_is_row (argN_cons (argN_cons argN_nil)) (ja_cons (je_var rfl 4) (ja_cons (je_callB call_lenA fit_len (by rfl) T.n_len (by decide +kernel) (ja_cons (je_var rfl 0) (ja_nil))) (ja_nil)))) (je_one (je_cmp op_leA fit_le (je_callB call_lenA fit_len (by rfl) T.n_len (by decide +kernel) (ja_cons (je_var rfl 4) (ja_nil))) (je_var rfl 1)))⟩ (by decide)) (ja_nil))))) (js_one (js_ret (je_bl))) (js_nil)) (js_cons (js_if (jt_cmp (op_neA hu64) fit_ne (je_callB (cr_sortA (by rfl)) fit_sorted (by rfl) T.n_sorted (by decide +kernel) (ja_cons (je_call (ok_nodes_of T) (hr.mono (by decide)) (L2N.takes_of rfl rfl rfl rfl) (by rfl) T.g_nodes_of T.F_nodes_of.kp T.b_nodes_of (argN_cons argN_nil) (ja_cons (je_var rfl 2) (ja_nil))) (ja_nil))) (je_listRange (by rfl) (by rfl) T.n_list (by rfl) T.n_range (je_callB call_lenA fit_len (by rfl) T.n_len (by decide +kernel) (ja_cons (je_var rfl 0) (ja_nil))))) (js_one (js_ret (je_bl))) (js_nil)) (js_cons (js_set 3 nd rfl (by first | exact .inl rfl | exact .inr rfl | exact .inr (.inl rfl) | exact .inr (.inr rfl)) (je_dc2E (tg := (.tp [5, 4])) (tg1 := (.nm 6)) (vs1 := [6]) (own := [("number", 5), ("step", 4), ("node", 6)]) (by rfl) nd rfl (by rfl) T.n_enumerate (je_var rfl 2) (blkOk_by (N := N_is_schedule) (sc := (defScope s_is_schedule)) (own := [("number", 5), ("step", 4), ("node", 6)]) (by decide +kernel)) (by decide) ⟨fun _ _ _ _ _ => pg_tup (by rfl) (pgs_cons (pg_name (i := 5) nd rfl (by first | exact .inl rfl | exact .inr rfl | exact .inr (.inl rfl) | exact .inr (.inr rfl))) (pgs_cons (pg_name (i := 4) nd rfl (by first | exact .inl rfl | exact .inr rfl | exact .inr (.inl rfl) | exact .inr (.inr rfl))) (pgs_nil))), fun _ _ _ _ _ _ _ => jts_nil, fun _ _ _ _ _ => pg_name (i := 6) nd rfl (by first | exact .inl rfl | exact .inr rfl | exact .inr (.inl rfl) | exact .inr (.inr rfl)), fun _ _ _ _ _ _ _ => je_var rfl 4, fun _ _ _ _ _ _ _ => jts_nil, fun _ _ _ _ _ _ _ => je_var rfl 6, fun _ _ _ _ _ _ _ => je_var rfl 5⟩ (by decide) (by decide))) (js_one (js_ret (je_callB (cr_all (by rfl)) fit_all (by rfl) T.n_all (by decide +kernel) (ja_cons (je_lc2E (tg := (.tp [6, 7])) (tg1 := (.nm 8)) (vs1 := [8]) (own := [("node", 6), ("row", 7), ("ahead", 8)]) (by rfl) nd rfl (by rfl) T.n_enumerate (je_var rfl 0) (blkOk_by (N := N_is_schedule) (sc := (defScope s_is_schedule)) (own := [("node", 6), ("row", 7), ("ahead", 8)]) (by decide +kernel)) (by decide) ⟨fun _ _ _ _ _ => pg_tup (by rfl) (pgs_cons (pg_name (i := 6) nd rfl (by first | exact .inl rfl | exact .inr rfl | exact .inr (.inl rfl) | exact .inr (.inr rfl))) (pgs_cons (pg_name (i := 7) nd rfl (by first | exact .inl rfl | exact .inr rfl | exact .inr (.inl rfl) | exact .inr (.inr rfl))) (pgs_nil))), fun _ _ _ _ _ _ _ => jts_nil, fun _ _ _ _ _ => pg_name (i := 8) nd rfl (by first | exact .inl rfl | exact .inr rfl | exact .inr (.inl rfl) | exact .inr (.inr rfl)), fun _ _ _ _ _ _ _ => je_var rfl 7, fun _ _ _ _ _ _ _ => jts_nil, fun _ _ _ _ _ _ _ => je_cmp op_ltA fit_lt (je_item rfl hu1 (je_var rfl 3) (je_var rfl 8)) (je_item rfl hu1 (je_var rfl 3) (je_var rfl 6))⟩ (by decide) (by decide)) (ja_nil))))))))))
theorem ok_is_free (T : Top K mg) : FnOk P w K mg base (L2N.CX P w) 1 T.f_is_free T.fd_is_free ["graph", "done", "node"] (spF K mg 3 F_is_free) :=
  fn_mir (N := N_is_free) (m := m_is_free) T.F_is_free sc_is_free fun cdv A outer s H E B hr => by
    have nd := sc_is_free.nd
    have hu65 := hr_65 hr
    have hu64 := hr_64 hr
    have hu1 := hr_1 hr
    exact (js_one (js_ret (je_callB (cr_all (by rfl)) fit_all (by rfl) T.n_all (by decide +kernel) (ja_cons (je_lc (tg := (.nm 3)) (own := [("ahead", 3)]) (by rfl) nd rfl (je_item rfl hu1 (je_var rfl 0) (je_var rfl 2)) (blkOk_by (N := N_is_free) (sc := (defScope s_is_free)) (own := [("ahead", 3)]) (by decide +kernel)) ⟨fun _ _ _ _ _ => pg_name (i := 3) nd rfl (by first | exact .inl rfl | exact .inr rfl | exact .inr (.inl rfl) | exact .inr (.inr rfl)), fun _ _ _ _ _ _ _ => jts_nil, fun _ _ _ _ _ _ _ => je_cmp (op_inDct hu1) fit_inK (je_var rfl 3) (je_var rfl 1)⟩ (by decide)) (ja_nil)))))
theorem ok_free_nodes (T : Top K mg) : FnOk P w K mg base (L2N.CX P w) 2 T.f_free_nodes T.fd_free_nodes ["graph", "done"] (spF K mg 2 F_free_nodes) :=
  fn_mir (N := N_free_nodes) (m := m_free_nodes) T.F_free_nodes sc_free_nodes fun cdv A outer s H E B hr => by
    have nd := sc_free_nodes.nd
    have hu65 := hr_65 hr
    have hu64 := hr_64 hr
    have hu1 := hr_1 hr
    exact (js_one (js_ret (je_lcR (tg := (.nm 2)) (own := [("node", 2)]) (by rfl) nd rfl (by rfl) T.n_range (ja_cons (je_callB call_lenA fit_len (by rfl) T.n_len (by decide +kernel) (ja_cons (je_var rfl 0) (ja_nil))) (ja_nil)) (blkOk_by (N := N_free_nodes) (sc := (defScope s_free_nodes)) (own := [("node", 2)]) (by decide +kernel)) ⟨fun _ _ _ _ _ => pg_name (i := 2) nd rfl (by first | exact .inl rfl | exact .inr rfl | exact .inr (.inl rfl) | exact .inr (.inr rfl)), fun _ _ _ _ _ _ _ => pts_one ((jw_and (jt_cmp (op_notInDct hu1) fit_ninK (je_var rfl 2) (je_var rfl 1)) (jw_and1 (jt_val (je_call (ok_is_free T) (hr.mono (by decide)) (takes_no fun _ _ _ _ h => h) (by rfl) T.g_is_free T.F_is_free.kp T.b_is_free (argN_cons (argN_cons (argN_cons argN_nil))) (ja_cons (je_var rfl 0) (ja_cons (je_var rfl 1) (ja_cons (je_var rfl 2) (ja_nil)))))))).pt), fun _ _ _ _ _ _ _ => je_var rfl 2⟩ (by decide))))
theorem ok_is_greedy (T : Top K mg) : FnOk P w K mg base (L2N.CX P w) 6 T.f_is_greedy T.fd_is_greedy ["graph", "cores", "schedule"] (spF K mg 3 F_is_greedy) :=
  fn_mir (N := N_is_greedy) (m := m_is_greedy) T.F_is_greedy sc_is_greedy fun cdv A outer s H E B hr => by
    have nd := sc_is_greedy.nd
    have hu65 := hr_65 hr
    have hu64 := hr_64 hr
    have hu1 := hr_1 hr
    exact (js_cons (js_if (jt_not (jt_val (je_call (ok_is_schedule T) (hr.mono (by decide)) (L2N.takes_of rfl rfl rfl rfl) (by rfl) T.g_is_schedule T.F_is_schedule.kp T.b_is_schedule (argN_cons (argN_cons (argN_cons argN_nil))) (ja_cons (je_var rfl 0) (ja_cons (je_var rfl 1) (ja_cons (je_var rfl 2) (ja_nil))))))) (js_one (js_ret (je_bl))) (js_nil)) (js_cons (js_set 3 nd rfl (by first | exact .inl rfl | exact .inr rfl | exact .inr (.inl rfl) | exact .inr (.inr rfl)) (je_dnew)) (js_cons (js_for (tg := (.nm 4)) (passes_of rfl) (by rfl) rfl (je_var rfl 2) (pg_name (i := 4) nd rfl (by first | exact .inl rfl | exact .inr rfl | exact .inr (.inl rfl) | exact .inr (.inr rfl))) (js_less (w2 := []) (js_cons (js_if ((jw_or (jt_cmp (op_eqA hu64) fit_eq (je_callB call_lenA fit_len (by rfl) T.n_len (by decide +kernel) (ja_cons (je_var rfl 4) (ja_nil))) (je_int)) (jw_or1 ((jw_and (jt_cmp op_ltA fit_lt (je_callB call_lenA fit_len (by rfl) T.n_len (by decide +kernel) (ja_cons (je_var rfl 4) (ja_nil))) (je_var rfl 1)) (jw_and1 (jt_cmp op_ltA fit_lt (je_callB call_lenA fit_len (by rfl) T.n_len (by decide +kernel) (ja_cons (je_var rfl 4) (ja_nil))) (je_callB call_lenA fit_len (by rfl) T.n_len (by decide +kernel) (ja_cons (je_call (ok_free_nodes T) (hr.mono (by decide)) (L2N.takes_of rfl rfl rfl rfl) (by rfl) T.g_free_nodes T.F_free_nodes.kp T.b_free_nodes (argN_cons (argN_cons argN_nil)) (ja_cons (je_var rfl 0) (ja_cons (je_var rfl 3) (ja_nil)))) (ja_nil)))))).pt))).pt) (js_one (js_ret (je_bl))) (js_nil)) (js_one (js_upd 3 rfl (by first | exact .inl rfl | exact .inr rfl | exact .inr (.inl rfl) | exact .inr (.inr rfl)) (je_dc (tg := (.nm 5)) (own := [("node", 5)]) (by rfl) nd rfl (je_var rfl 4) (blkOk_by (N := N_is_greedy) (sc := (defScope s_is_greedy)) (own := [("node", 5)]) (by decide +kernel)) ⟨fun _ _ _ _ _ => pg_name (i := 5) nd rfl (by first | exact .inl rfl | exact .inr rfl | exact .inr (.inl rfl) | exact .inr (.inr rfl)), fun _ _ _ _ _ _ _ => jts_nil, fun _ _ _ _ _ _ _ => je_var rfl 5, fun _ _ _ _ _ _ _ => je_bl⟩ (by decide)) ⟨by rfl, by rfl, by rfl, by rfl⟩))) (by decide))) (js_one (js_ret (je_bl))))))
theorem ok_listed (T : Top K mg) : FnOk P w K mg base (L2N.CX P w) 5 T.f_listed T.fd_listed ["graph", "cores", "order"] (spF K mg 3 F_listed) :=
  fn_mir (N := N_listed) (m := m_listed) T.F_listed sc_listed fun cdv A outer s H E B hr => by
    have nd := sc_listed.nd
    have hu65 := hr_65 hr
    have hu64 := hr_64 hr
    have hu1 := hr_1 hr
    exact (js_cons (js_expr (je_call (ok_check_graph T) (hr.mono (by decide)) (L2N.takes_of rfl rfl rfl rfl) (by rfl) T.g_check_graph T.F_check_graph.kp T.b_check_graph (argN_cons argN_nil) (ja_cons (je_var rfl 0) (ja_nil)))) (js_cons (js_set 3 nd rfl (by first | exact .inl rfl | exact .inr rfl | exact .inr (.inl rfl) | exact .inr (.inr rfl)) (je_lst (ja_nil))) (js_cons (js_set 4 nd rfl (by first | exact .inl rfl | exact .inr rfl | exact .inr (.inl rfl) | exact .inr (.inr rfl)) (je_dnew)) (js_cons (js_set 5 nd rfl (by first | exact .inl rfl | exact .inr rfl | exact .inr (.inl rfl) | exact .inr (.inr rfl)) (je_callTy call_list_of fit_list (by rfl) T.n_list (by decide +kernel) (ja_cons (je_var rfl 2) (ja_nil)))) (js_cons (js_while 64 (passes_of rfl) (jt_tru rfl (je_var rfl 5)) (js_less (w2 := [5, 6]) (js_cons (js_set 6 nd rfl (by first | exact .inl rfl | exact .inr rfl | exact .inr (.inl rfl) | exact .inr (.inr rfl)) (je_slH rfl (je_lc (tg := (.nm 7)) (own := [("node", 7)]) (by rfl) nd rfl (je_var rfl 5) (blkOk_by (N := N_listed) (sc := (defScope s_listed)) (own := [("node", 7)]) (by decide +kernel)) ⟨fun _ _ _ _ _ => pg_name (i := 7) nd rfl (by first | exact .inl rfl | exact .inr rfl | exact .inr (.inl rfl) | exact .inr (.inr rfl)), fun _ _ _ _ _ _ _ => pts_one (jt_val (je_call (ok_is_free T) (hr.mono (by decide)) (takes_no fun _ _ _ _ h => h) (by rfl) T.g_is_free T.F_is_free.kp T.b_is_free (argN_cons (argN_cons (argN_cons argN_nil))) (ja_cons (je_var rfl 0) (ja_cons (je_var rfl 4) (ja_cons (je_var rfl 7) (ja_nil)))))), fun _ _ _ _ _ _ _ => je_var rfl 7⟩ (by decide)) (je_var rfl 1))) (js_cons (js_append 3 rfl rfl (by first | exact .inl rfl | exact .inr rfl | exact .inr (.inl rfl) | exact .inr (.inr rfl)) (je_callTy call_tuple_of fit_tuple (by rfl) T.n_tuple (by decide +kernel) (ja_cons (je_callB (cr_sortA (by rfl)) fit_sorted (by rfl) T.n_sorted (by decide +kernel) (ja_cons (je_var rfl 6) (ja_nil))) (ja_nil)))) (js_cons (js_upd 4 rfl (by first | exact .inl rfl | exact .inr rfl | exact .inr (.inl rfl) | exact .inr (.inr rfl)) (je_dc (tg := (.nm 7)) (own := [("node", 7)]) (by rfl) nd rfl (je_var rfl 6) (blkOk_by (N := N_listed) (sc := (defScope s_listed)) (own := [("node", 7)]) (by decide +kernel)) ⟨fun _ _ _ _ _ => pg_name (i := 7) nd rfl (by first | exact .inl rfl | exact .inr rfl | exact .inr (.inl rfl) | exact .inr (.inr rfl)), fun _ _ _ _ _ _ _ => jts_nil, fun _ _ _ _ _ _ _ => je_var rfl 7, fun _ _ _ _ _ _ _ => je_bl⟩ (by decide)) ⟨by rfl, by rfl, by rfl, by rfl⟩) (js_one (js_setLc (tg := (.nm 7)) (own := [("node", 7)]) 5 (by rfl) nd rfl rfl (sw_true rfl rfl rfl (by decide +kernel)) rfl (je_var rfl 5) (blkOk_by (N := N_listed) (sc := (defScope s_listed)) (own := [("node", 7)]) (by decide +kernel)) ⟨fun _ _ _ _ _ => pg_name (i := 7) nd rfl (by first | exact .inl rfl | exact .inr rfl | exact .inr (.inl rfl) | exact .inr (.inr rfl)), fun _ _ _ _ _ _ _ => pts_one (jt_cmp (op_notInDct hu1) fit_ninK (je_var rfl 7) (je_var rfl 4)), fun _ _ _ _ _ _ _ => je_var rfl 7⟩ (by decide)))))) (by decide))) (js_one (js_ret (je_callTy call_tuple_of fit_tuple (by rfl) T.n_tuple (by decide +kernel) (ja_cons (je_var rfl 3) (ja_nil))))))))))
theorem ok_cut_down (T : Top K mg) : FnOk P w K mg base (L2N.CX P w) 6 T.f_cut_down T.fd_cut_down ["graph", "cores", "schedule"] (spF K mg 3 F_cut_down) :=
  fn_mir (N := N_cut_down) (m := m_cut_down) T.F_cut_down sc_cut_down fun cdv A outer s H E B hr => by
    have nd := sc_cut_down.nd
    have hu65 := hr_65 hr
    have hu64 := hr_64 hr
    have hu1 := hr_1 hr
    exact (js_one (js_ret (je_call (ok_listed T) (hr.mono (by decide)) (L2N.takes_of rfl rfl rfl rfl) (by rfl) T.g_listed T.F_listed.kp T.b_listed (argN_cons (argN_cons (argN_cons argN_nil))) (ja_cons (je_var rfl 0) (ja_cons (je_var rfl 1) (ja_cons (je_call (ok_nodes_of T) (hr.mono (by decide)) (L2N.takes_of rfl rfl rfl rfl) (by rfl) T.g_nodes_of T.F_nodes_of.kp T.b_nodes_of (argN_cons argN_nil) (ja_cons (je_var rfl 2) (ja_nil))) (ja_nil)))))))
theorem ok__law_whole (T : Top K mg) : FnOk P w K mg base (L2N.CX P w) 1 T.f__law_whole T.fd__law_whole ["value"] (spF K mg 1 F__law_whole) :=
  fn_mir (N := N__law_whole) (m := m__law_whole) T.F__law_whole sc__law_whole fun cdv A outer s H E B hr => by
    have nd := sc__law_whole.nd
    have hu65 := hr_65 hr
    have hu64 := hr_64 hr
    have hu1 := hr_1 hr
    exact (js_one (js_ret (je_and (je_isi .tInt rfl (je_var rfl 0) (by rfl) (by rfl) T.n_isinstance (by rfl) T.n_int (by decide +kernel)) (je_one (je_not (je_isi .tBool rfl (je_var rfl 0) (by rfl) (by rfl) T.n_isinstance (by rfl) T.n_bool (by decide +kernel)))))))
theorem ok__law_cell (T : Top K mg) : FnOk P w K mg base (L2N.CX P w) 1 T.f__law_cell T.fd__law_cell ["script", "k"] (spF K mg 2 F__law_cell) :=
  fn_mir (N := N__law_cell) (m := m__law_cell) T.F__law_cell sc__law_cell fun cdv A outer s H E B hr => by
    have nd := sc__law_cell.nd
    have hu65 := hr_65 hr
    have hu64 := hr_64 hr
    have hu1 := hr_1 hr
    exact (js_cons (js_if (jt_cmp op_ltA fit_lt (je_var rfl 1) (je_callB call_lenA fit_len (by rfl) T.n_len (by decide +kernel) (ja_cons (je_var rfl 0) (ja_nil)))) (js_one (js_ret (je_item rfl hu1 (je_var rfl 0) (je_var rfl 1)))) (js_nil)) (js_cons (js_set 2 nd rfl (by first | exact .inl rfl | exact .inr rfl | exact .inr (.inl rfl) | exact .inr (.inr rfl)) (je_int)) (js_cons (js_for (tg := (.nm 3)) (passes_of rfl) (by rfl) rfl (je_slH rfl (je_var rfl 0) (je_int)) (pg_name (i := 3) nd rfl (by first | exact .inl rfl | exact .inr rfl | exact .inr (.inl rfl) | exact .inr (.inr rfl))) (js_less (w2 := [2]) (js_one (js_set 2 nd rfl (by first | exact .inl rfl | exact .inr rfl | exact .inr (.inl rfl) | exact .inr (.inr rfl)) (je_bin op_mod fit_mod (je_callTy call_int1 fit_int (by rfl) T.n_int (by decide +kernel) (ja_cons (je_bin op_addA fit_add (je_bin op_mulL fit_mulL (je_var rfl 2) (je_int)) (je_var rfl 3)) (ja_nil))) (je_int)))) (by decide))) (js_one (js_ret (je_bin op_addA fit_add (je_bin op_mulL fit_mulL (je_var rfl 2) (je_int)) (je_var rfl 1)))))))
theorem ok__law_draws (T : Top K mg) : FnOk P w K mg base (L2N.CX P w) 1 T.f__law_draws T.fd__law_draws ["cell", "limits"] (spF K mg 2 F__law_draws) :=
  fn_mir (N := N__law_draws) (m := m__law_draws) T.F__law_draws sc__law_draws fun cdv A outer s H E B hr => by
    have nd := sc__law_draws.nd
    have hu65 := hr_65 hr
    have hu64 := hr_64 hr
    have hu1 := hr_1 hr
    exact (js_cons (js_set 2 nd rfl (by first | exact .inl rfl | exact .inr rfl | exact .inr (.inl rfl) | exact .inr (.inr rfl)) (je_callB call_abs fit_abs (by rfl) T.n_abs (by decide +kernel) (ja_cons (je_var rfl 0) (ja_nil)))) (js_cons (js_set 3 nd rfl (by first | exact .inl rfl | exact .inr rfl | exact .inr (.inl rfl) | exact .inr (.inr rfl)) (je_cmp op_geA fit_ge (je_var rfl 2) (je_bin op_pow fit_pow (je_int) (je_int)))) (js_cons (js_if (jt_tru rfl (je_var rfl 3)) (js_one (js_set 2 nd rfl (by first | exact .inl rfl | exact .inr rfl | exact .inr (.inl rfl) | exact .inr (.inr rfl)) (je_bin op_sub fit_sub (je_var rfl 2) (je_bin op_pow fit_pow (je_int) (je_int))))) (js_one (js_if (jt_cmp op_ltA fit_lt (je_var rfl 0) (je_int)) (js_one (js_set 2 nd rfl (by first | exact .inl rfl | exact .inr rfl | exact .inr (.inl rfl) | exact .inr (.inr rfl)) (je_bin op_addA fit_add (je_var rfl 2) (je_int)))) (js_nil)))) (js_cons (js_set 4 nd rfl (by first | exact .inl rfl | exact .inr rfl | exact .inr (.inl rfl) | exact .inr (.inr rfl)) (je_lst (ja_nil))) (js_cons (js_forR1 (tg := (.nm 5)) (passes_of rfl) (by rfl) rfl (by rfl) T.n_range (ja_cons (je_callB call_lenA fit_len (by rfl) T.n_len (by decide +kernel) (ja_cons (je_var rfl 1) (ja_nil))) (ja_nil)) (pg_name (i := 5) nd rfl (by first | exact .inl rfl | exact .inr rfl | exact .inr (.inl rfl) | exact .inr (.inr rfl))) (js_less (w2 := [2, 6]) (js_one (js_if (jt_tru rfl (je_var rfl 3)) (js_cons (js_append 4 rfl rfl (by first | exact .inl rfl | exact .inr rfl | exact .inr (.inl rfl) | exact .inr (.inr rfl)) (je_bin op_mod fit_mod (je_callTy call_int1 fit_int (by rfl) T.n_int (by decide +kernel) (ja_cons (je_var rfl 2) (ja_nil))) (je_item rfl hu1 (je_var rfl 1) (je_var rfl 5)))) (js_one (js_set 2 nd rfl (by first | exact .inl rfl | exact .inr rfl | exact .inr (.inl rfl) | exact .inr (.inr rfl)) (je_bin op_fdivW fit_div (je_var rfl 2) (je_item rfl hu1 (je_var rfl 1) (je_var rfl 5)))))) (js_cons (js_set 6 nd rfl (by first | exact .inl rfl | exact .inr rfl | exact .inr (.inl rfl) | exact .inr (.inr rfl)) (je_bin op_mod fit_mod (je_callTy call_int1 fit_int (by rfl) T.n_int (by decide +kernel) (ja_cons (je_bin op_addA fit_add (je_bin op_mulL fit_mulL (je_var rfl 2) (je_int)) (je_bin op_mulL fit_mulL (je_bin op_addA fit_add (je_var rfl 5) (je_int)) (je_int))) (ja_nil))) (je_int))) (js_cons (js_set 6 nd rfl (by first | exact .inl rfl | exact .inr rfl | exact .inr (.inl rfl) | exact .inr (.inr rfl)) (je_bin op_mod fit_mod (je_callTy call_int1 fit_int (by rfl) T.n_int (by decide +kernel) (ja_cons (je_bin op_addA fit_add (je_bin op_mulL fit_mulL (je_var rfl 6) (je_int)) (je_bin op_mulL fit_mulL (je_bin op_fdivW fit_div (je_var rfl 6) (je_int)) (je_bin op_addA fit_add (je_var rfl 5) (je_int)))) (ja_nil))) (je_int))) (js_one (js_append 4 rfl rfl (by first | exact .inl rfl | exact .inr rfl | exact .inr (.inl rfl) | exact .inr (.inr rfl)) (je_bin op_mod fit_mod (je_callTy call_int1 fit_int (by rfl) T.n_int (by decide +kernel) (ja_cons (je_bin op_fdivW fit_div (je_var rfl 6) (je_int)) (ja_nil))) (je_item rfl hu1 (je_var rfl 1) (je_var rfl 5))))))))) (by decide))) (js_one (js_ret (je_var rfl 4))))))))
theorem ok__law_graph (T : Top K mg) : FnOk P w K mg base (L2N.CX P w) 2 T.f__law_graph T.fd__law_graph ["script", "start", "most"] (spF K mg 3 F__law_graph) :=
  fn_mir (N := N__law_graph) (m := m__law_graph) T.F__law_graph sc__law_graph fun cdv A outer s H E B hr => by
    have nd := sc__law_graph.nd
    have hu65 := hr_65 hr
    have hu64 := hr_64 hr
    have hu1 := hr_1 hr
    exact (js_cons (js_set 3 nd rfl (by first | exact .inl rfl | exact .inr rfl | exact .inr (.inl rfl) | exact .inr (.inr rfl)) (je_call (ok__law_draws T) (hr.mono (by decide)) (L2N.takes_of rfl rfl rfl rfl) (by rfl) T.g__law_draws T.F__law_draws.kp T.b__law_draws (argN_cons (argN_cons argN_nil)) (ja_cons (je_call (ok__law_cell T) (hr.mono (by decide)) (L2N.takes_of rfl rfl rfl rfl) (by rfl) T.g__law_cell T.F__law_cell.kp T.b__law_cell (argN_cons (argN_cons argN_nil)) (ja_cons (je_var rfl 0) (ja_cons (je_var rfl 1) (ja_nil)))) (ja_cons (je_lst (ja_cons (je_bin op_addA fit_add (je_var rfl 2) (je_int)) (ja_cons (je_int) (ja_nil)))) (ja_nil))))) (js_cons (js_set 4 nd rfl (by first | exact .inl rfl | exact .inr rfl | exact .inr (.inl rfl) | exact .inr (.inr rfl)) (je_lst (ja_nil))) (js_cons (js_forR1 (tg := (.nm 5)) (passes_of rfl) (by rfl) rfl (by rfl) T.n_range (ja_cons (je_item rfl hu1 (je_var rfl 3) (je_int)) (ja_nil)) (pg_name (i := 5) nd rfl (by first | exact .inl rfl | exact .inr rfl | exact .inr (.inl rfl) | exact .inr (.inr rfl))) (js_less (w2 := [6, 7, 8]) (js_cons (js_set 6 nd rfl (by first | exact .inl rfl | exact .inr rfl | exact .inr (.inl rfl) | exact .inr (.inr rfl)) (je_call (ok__law_draws T) (hr.mono (by decide)) (L2N.takes_of rfl rfl rfl rfl) (by rfl) T.g__law_draws T.F__law_draws.kp T.b__law_draws (argN_cons (argN_cons argN_nil)) (ja_cons (je_call (ok__law_cell T) (hr.mono (by decide)) (L2N.takes_of rfl rfl rfl rfl) (by rfl) T.g__law_cell T.F__law_cell.kp T.b__law_cell (argN_cons (argN_cons argN_nil)) (ja_cons (je_var rfl 0) (ja_cons (je_bin op_addA fit_add (je_bin op_addA fit_add (je_var rfl 1) (je_int)) (je_var rfl 5)) (ja_nil)))) (ja_cons (je_bin op_addA fit_add (je_lst (ja_cons (je_bin op_addA fit_add (je_int) (je_item rfl hu1 (je_var rfl 3) (je_int))) (ja_nil))) (je_bin op_mulL fit_mulL (je_lst (ja_cons (je_callB (call_max2 (by rfl)) fit_max2 (by rfl) T.n_max (by decide +kernel) (ja_cons (je_int) (ja_cons (je_var rfl 5) (ja_nil)))) (ja_nil))) (je_int))) (ja_nil))))) (js_cons (js_set 7 nd rfl (by first | exact .inl rfl | exact .inr rfl | exact .inr (.inl rfl) | exact .inr (.inr rfl)) (je_lst (ja_nil))) (js_cons (js_for (tg := (.nm 8)) (passes_of rfl) (by rfl) rfl (je_slLH rfl (je_var rfl 6) (je_int) (je_bin op_addA fit_add (je_int) (je_callB (call_min2 (by rfl)) fit_min2 (by rfl) T.n_min (by decide +kernel) (ja_cons (je_int) (ja_cons (je_item rfl hu1 (je_var rfl 6) (je_int)) (ja_nil)))))) (pg_name (i := 8) nd rfl (by first | exact .inl rfl | exact .inr rfl | exact .inr (.inl rfl) | exact .inr (.inr rfl))) (js_less (w2 := []) (js_one (js_if ((jw_and (jt_cmp op_gtA fit_gt (je_var rfl 5) (je_int)) (jw_and1 (jt_cmp (op_ninA hu65) fit_nin (je_var rfl 8) (je_var rfl 7)))).pt) (js_one (js_insert 7 rfl rfl (by first | exact .inl rfl | exact .inr rfl | exact .inr (.inl rfl) | exact .inr (.inr rfl)) (je_callB call_lenA fit_len (by rfl) T.n_len (by decide +kernel) (ja_cons (je_lc (tg := (.nm 9)) (own := [("one", 9)]) (by rfl) nd rfl (je_var rfl 7) (blkOk_by (N := N__law_graph) (sc := (defScope s__law_graph)) (own := [("one", 9)]) (by decide +kernel)) ⟨fun _ _ _ _ _ => pg_name (i := 9) nd rfl (by first | exact .inl rfl | exact .inr rfl | exact .inr (.inl rfl) | exact .inr (.inr rfl)), fun _ _ _ _ _ _ _ => pts_one (jt_cmp op_ltA fit_lt (je_var rfl 9) (je_var rfl 8)), fun _ _ _ _ _ _ _ => je_var rfl 9⟩ (by decide)) (ja_nil))) (je_var rfl 8))) (js_nil))) (by decide))) (js_one (js_append 4 rfl rfl (by first | exact .inl rfl | exact .inr rfl | exact .inr (.inl rfl) | exact .inr (.inr rfl)) (je_callTy call_tuple_of fit_tuple (by rfl) T.n_tuple (by decide +kernel) (ja_cons (je_var rfl 7) (ja_nil)))))))) (by decide))) (js_one (js_ret (je_callTy call_tuple_of fit_tuple (by rfl) T.n_tuple (by decide +kernel) (ja_cons (je_var rfl 4) (ja_nil))))))))
theorem ok__law_free (T : Top K mg) : FnOk P w K mg base (L2N.CX P w) 1 T.f__law_free T.fd__law_free ["graph", "done"] (spF K mg 2 F__law_free) :=
  fn_mir (N := N__law_free) (m := m__law_free) T.F__law_free sc__law_free fun cdv A outer s H E B hr => by
    have nd := sc__law_free.nd
    have hu65 := hr_65 hr
    have hu64 := hr_64 hr
    have hu1 := hr_1 hr
    exact (js_one (js_ret (je_lcR (tg := (.nm 2)) (own := [("k", 2)]) (by rfl) nd rfl (by rfl) T.n_range (ja_cons (je_callB call_lenA fit_len (by rfl) T.n_len (by decide +kernel) (ja_cons (je_var rfl 0) (ja_nil))) (ja_nil)) (blkOk_by (N := N__law_free) (sc := (defScope s__law_free)) (own := [("k", 2)]) (by decide +kernel)) ⟨fun _ _ _ _ _ => pg_name (i := 2) nd rfl (by first | exact .inl rfl | exact .inr rfl | exact .inr (.inl rfl) | exact .inr (.inr rfl)), fun _ _ _ _ _ _ _ => pts_one ((jw_and (jt_cmp (op_ninA hu65) fit_nin (je_var rfl 2) (je_var rfl 1)) (jw_and1 (jt_cmp (op_eqA hu64) fit_eq (je_lc (tg := (.nm 3)) (own := [("one", 3)]) (by rfl) nd rfl (je_item rfl hu1 (je_var rfl 0) (je_var rfl 2)) (blkOk_re (N := N__law_free) (sc := _) (own := [("one", 3)]) (by decide +kernel)) ⟨fun _ _ _ _ _ => pg_name (i := 3) nd rfl (by first | exact .inl rfl | exact .inr rfl | exact .inr (.inl rfl) | exact .inr (.inr rfl)), fun _ _ _ _ _ _ _ => pts_one (jt_cmp (op_ninA hu65) fit_nin (je_var rfl 3) (je_var rfl 1)), fun _ _ _ _ _ _ _ => je_var rfl 3⟩ (by decide)) (je_lst (ja_nil))))).pt), fun _ _ _ _ _ _ _ => je_var rfl 2⟩ (by decide))))
theorem ok__law_listed (T : Top K mg) : FnOk P w K mg base (L2N.CX P w) 2 T.f__law_listed T.fd__law_listed ["graph", "cores", "order"] (spF K mg 3 F__law_listed) :=
  fn_mir (N := N__law_listed) (m := m__law_listed) T.F__law_listed sc__law_listed fun cdv A outer s H E B hr => by
    have nd := sc__law_listed.nd
    have hu65 := hr_65 hr
    have hu64 := hr_64 hr
    have hu1 := hr_1 hr
    exact (js_cons (js_set 3 nd rfl (by first | exact .inl rfl | exact .inr rfl | exact .inr (.inl rfl) | exact .inr (.inr rfl)) (je_lst (ja_nil))) (js_cons (js_set 4 nd rfl (by first | exact .inl rfl | exact .inr rfl | exact .inr (.inl rfl) | exact .inr (.inr rfl)) (je_lst (ja_nil))) (js_cons (js_forR1 (tg := (.nm 5)) (passes_of rfl) (by rfl) rfl (by rfl) T.n_range (ja_cons (je_callB call_lenA fit_len (by rfl) T.n_len (by decide +kernel) (ja_cons (je_var rfl 0) (ja_nil))) (ja_nil)) (pg_name (i := 5) nd rfl (by first | exact .inl rfl | exact .inr rfl | exact .inr (.inl rfl) | exact .inr (.inr rfl))) (js_less (w2 := [3, 6, 7]) (js_cons (js_set 6 nd rfl (by first | exact .inl rfl | exact .inr rfl | exact .inr (.inl rfl) | exact .inr (.inr rfl)) (je_call (ok__law_free T) (hr.mono (by decide)) (L2N.takes_of rfl rfl rfl rfl) (by rfl) T.g__law_free T.F__law_free.kp T.b__law_free (argN_cons (argN_cons argN_nil)) (ja_cons (je_var rfl 0) (ja_cons (je_var rfl 3) (ja_nil))))) (js_cons (js_if (jt_cmp (op_eqA hu64) fit_eq (je_var rfl 6) (je_lst (ja_nil))) (js_one (js_break)) (js_nil)) (js_cons (js_set 7 nd rfl (by first | exact .inl rfl | exact .inr rfl | exact .inr (.inl rfl) | exact .inr (.inr rfl)) (je_slH rfl (je_lc (tg := (.nm 8)) (own := [("one", 8)]) (by rfl) nd rfl (je_var rfl 2) (blkOk_by (N := N__law_listed) (sc := (defScope s__law_listed)) (own := [("one", 8)]) (by decide +kernel)) ⟨fun _ _ _ _ _ => pg_name (i := 8) nd rfl (by first | exact .inl rfl | exact .inr rfl | exact .inr (.inl rfl) | exact .inr (.inr rfl)), fun _ _ _ _ _ _ _ => pts_one (jt_cmp (op_inA hu65) fit_in (je_var rfl 8) (je_var rfl 6)), fun _ _ _ _ _ _ _ => je_var rfl 8⟩ (by decide)) (je_var rfl 1))) (js_cons (js_append 4 rfl rfl (by first | exact .inl rfl | exact .inr rfl | exact .inr (.inl rfl) | exact .inr (.inr rfl)) (je_callTy call_tuple_of fit_tuple (by rfl) T.n_tuple (by decide +kernel) (ja_cons (je_lcR (tg := (.nm 9)) (own := [("k", 9)]) (by rfl) nd rfl (by rfl) T.n_range (ja_cons (je_callB call_lenA fit_len (by rfl) T.n_len (by decide +kernel) (ja_cons (je_var rfl 0) (ja_nil))) (ja_nil)) (blkOk_by (N := N__law_listed) (sc := (defScope s__law_listed)) (own := [("k", 9)]) (by decide +kernel)) ⟨fun _ _ _ _ _ => pg_name (i := 9) nd rfl (by first | exact .inl rfl | exact .inr rfl | exact .inr (.inl rfl) | exact .inr (.inr rfl)), fun _ _ _ _ _ _ _ => pts_one (jt_cmp (op_inA hu65) fit_in (je_var rfl 9) (je_var rfl 7)), fun _ _ _ _ _ _ _ => je_var rfl 9⟩ (by decide)) (ja_nil)))) (js_one (js_set 3 nd rfl (by first | exact .inl rfl | exact .inr rfl | exact .inr (.inl rfl) | exact .inr (.inr rfl)) (je_bin op_addA fit_add (je_var rfl 3) (je_var rfl 7)))))))) (by decide))) (js_one (js_ret (je_callTy call_tuple_of fit_tuple (by rfl) T.n_tuple (by decide +kernel) (ja_cons (je_var rfl 4) (ja_nil))))))))
theorem ok__law_drawn (T : Top K mg) : FnOk P w K mg base (L2N.CX P w) 2 T.f__law_drawn T.fd__law_drawn ["graph", "cores", "cell", "is_full"] (spF K mg 4 F__law_drawn) :=
  fn_mir (N := N__law_drawn) (m := m__law_drawn) T.F__law_drawn sc__law_drawn fun cdv A outer s H E B hr => by
    have nd := sc__law_drawn.nd
    have hu65 := hr_65 hr
    have hu64 := hr_64 hr
    have hu1 := hr_1 hr
    exact (js_cons (js_set 4 nd rfl (by first | exact .inl rfl | exact .inr rfl | exact .inr (.inl rfl) | exact .inr (.inr rfl)) (je_call (ok__law_draws T) (hr.mono (by decide)) (L2N.takes_of rfl rfl rfl rfl) (by rfl) T.g__law_draws T.F__law_draws.kp T.b__law_draws (argN_cons (argN_cons argN_nil)) (ja_cons (je_var rfl 2) (ja_cons (je_bin op_mulL fit_mulL (je_lst (ja_cons (je_int) (ja_cons (je_int) (ja_nil)))) (je_int)) (ja_nil))))) (js_cons (js_set 5 nd rfl (by first | exact .inl rfl | exact .inr rfl | exact .inr (.inl rfl) | exact .inr (.inr rfl)) (je_lst (ja_nil))) (js_cons (js_set 6 nd rfl (by first | exact .inl rfl | exact .inr rfl | exact .inr (.inl rfl) | exact .inr (.inr rfl)) (je_lst (ja_nil))) (js_cons (js_forR1 (tg := (.nm 7)) (passes_of rfl) (by rfl) rfl (by rfl) T.n_range (ja_cons (je_int) (ja_nil)) (pg_name (i := 7) nd rfl (by first | exact .inl rfl | exact .inr rfl | exact .inr (.inl rfl) | exact .inr (.inr rfl))) (js_less (w2 := [5, 8, 9, 10, 11]) (js_cons (js_set 8 nd rfl (by first | exact .inl rfl | exact .inr rfl | exact .inr (.inl rfl) | exact .inr (.inr rfl)) (je_call (ok__law_free T) (hr.mono (by decide)) (L2N.takes_of rfl rfl rfl rfl) (by rfl) T.g__law_free T.F__law_free.kp T.b__law_free (argN_cons (argN_cons argN_nil)) (ja_cons (je_var rfl 0) (ja_cons (je_var rfl 5) (ja_nil))))) (js_cons (js_if ((jw_and (jt_cmp (op_eqA hu64) fit_eq (je_var rfl 8) (je_lst (ja_nil))) (jw_and1 (jt_cmp (op_eqA hu64) fit_eq (je_callB call_lenA fit_len (by rfl) T.n_len (by decide +kernel) (ja_cons (je_var rfl 5) (ja_nil))) (je_callB call_lenA fit_len (by rfl) T.n_len (by decide +kernel) (ja_cons (je_var rfl 0) (ja_nil)))))).pt) (js_one (js_break)) (js_nil)) (js_cons (js_set 9 nd rfl (by first | exact .inl rfl | exact .inr rfl | exact .inr (.inl rfl) | exact .inr (.inr rfl)) (je_callB (call_min3I (by rfl)) fit_min3 (by rfl) T.n_min (by decide +kernel) (ja_cons (je_int) (ja_cons (je_var rfl 1) (ja_cons (je_callB call_lenA fit_len (by rfl) T.n_len (by decide +kernel) (ja_cons (je_var rfl 8) (ja_nil))) (ja_nil)))))) (js_cons (js_if ((jw_and (jt_not (jt_tru rfl (je_var rfl 3))) (jw_and1 (jt_cmp op_ltA fit_lt (je_var rfl 7) (je_int)))).pt) (js_one (js_set 9 nd rfl (by first | exact .inl rfl | exact .inr rfl | exact .inr (.inl rfl) | exact .inr (.inr rfl)) (je_callB (call_min2 (by rfl)) fit_min2 (by rfl) T.n_min (by decide +kernel) (ja_cons (je_var rfl 9) (ja_cons (je_item rfl hu1 (je_var rfl 4) (je_bin op_mulL fit_mulL (je_int) (je_var rfl 7))) (ja_nil)))))) (js_nil)) (js_cons (js_set 10 nd rfl (by first | exact .inl rfl | exact .inr rfl | exact .inr (.inl rfl) | exact .inr (.inr rfl)) (je_bin op_mod fit_mod (je_callTy call_int1 fit_int (by rfl) T.n_int (by decide +kernel) (ja_cons (je_item rfl hu1 (je_var rfl 4) (je_bin op_addA fit_add (je_bin op_mulL fit_mulL (je_int) (je_var rfl 7)) (je_int))) (ja_nil))) (je_callB (call_max2 (by rfl)) fit_max2 (by rfl) T.n_max (by decide +kernel) (ja_cons (je_int) (ja_cons (je_callB call_lenA fit_len (by rfl) T.n_len (by decide +kernel) (ja_cons (je_var rfl 8) (ja_nil))) (ja_nil)))))) (js_cons (js_set 11 nd rfl (by first | exact .inl rfl | exact .inr rfl | exact .inr (.inl rfl) | exact .inr (.inr rfl)) (je_slH rfl (je_bin op_addA fit_add (je_slL rfl (je_var rfl 8) (je_var rfl 10)) (je_slH rfl (je_var rfl 8) (je_var rfl 10))) (je_var rfl 9))) (js_cons (js_append 6 rfl rfl (by first | exact .inl rfl | exact .inr rfl | exact .inr (.inl rfl) | exact .inr (.inr rfl)) (je_callTy call_tuple_of fit_tuple (by rfl) T.n_tuple (by decide +kernel) (ja_cons (je_lcR (tg := (.nm 12)) (own := [("k", 12)]) (by rfl) nd rfl (by rfl) T.n_range (ja_cons (je_callB call_lenA fit_len (by rfl) T.n_len (by decide +kernel) (ja_cons (je_var rfl 0) (ja_nil))) (ja_nil)) (blkOk_by (N := N__law_drawn) (sc := (defScope s__law_drawn)) (own := [("k", 12)]) (by decide +kernel)) ⟨fun _ _ _ _ _ => pg_name (i := 12) nd rfl (by first | exact .inl rfl | exact .inr rfl | exact .inr (.inl rfl) | exact .inr (.inr rfl)), fun _ _ _ _ _ _ _ => pts_one (jt_cmp (op_inA hu65) fit_in (je_var rfl 12) (je_var rfl 11)), fun _ _ _ _ _ _ _ => je_var rfl 12⟩ (by decide)) (ja_nil)))) (js_one (js_set 5 nd rfl (by first | exact .inl rfl | exact .inr rfl | exact .inr (.inl rfl) | exact .inr (.inr rfl)) (je_bin op_addA fit_add (je_var rfl 5) (je_var rfl 11))))))))))) (by decide))) (js_one (js_ret (je_callTy call_tuple_of fit_tuple (by rfl) T.n_tuple (by decide +kernel) (ja_cons (je_var rfl 6) (ja_nil)))))))))
theorem ok__law_is_schedule (T : Top K mg) : FnOk P w K mg base (L2N.CX P w) 2 T.f__law_is_schedule T.fd__law_is_schedule ["graph", "cores", "value"] (spF K mg 3 F__law_is_schedule) :=
  fn_mir (N := N__law_is_schedule) (m := m__law_is_schedule) T.F__law_is_schedule sc__law_is_schedule fun cdv A outer s H E B hr => by
    have nd := sc__law_is_schedule.nd
    have hu65 := hr_65 hr
    have hu64 := hr_64 hr
    have hu1 := hr_1 hr
    exact (js_cons (js_if (jt_not (jt_val (je_isi .tTuple rfl (je_var rfl 2) (by rfl) (by rfl) T.n_isinstance (by rfl) T.n_tuple (by decide +kernel)))) (js_one (js_ret (je_bl))) (js_nil)) (js_cons (js_set 3 nd rfl (by first | exact .inl rfl | exact .inr rfl | exact .inr (.inl rfl) | exact .inr (.inr rfl)) (je_lst (ja_nil))) (js_cons (js_for (tg := (.nm 4)) (passes_of rfl) (by rfl) rfl (je_var rfl 2) (pg_name (i := 4) nd rfl (by first | exact .inl rfl | exact .inr rfl | exact .inr (.inl rfl) | exact .inr (.inr rfl))) (js_less (w2 := [3, 5]) (js_cons (js_if ((jw_or (jt_not (jt_val (je_isi .tTuple rfl (je_var rfl 4) (by rfl) (by rfl) T.n_isinstance (by rfl) T.n_tuple (by decide +kernel)))) (jw_or1 (jt_cmp op_gtA fit_gt (je_callB call_lenA fit_len (by rfl) T.n_len (by decide +kernel) (ja_cons (je_var rfl 4) (ja_nil))) (je_var rfl 1)))).pt) (js_one (js_ret (je_bl))) (js_nil)) (js_cons (js_forR1 (tg := (.nm 5)) (passes_of rfl) (by rfl) rfl (by rfl) T.n_range (ja_cons (je_callB call_lenA fit_len (by rfl) T.n_len (by decide +kernel) (ja_cons (je_var rfl 4) (ja_nil))) (ja_nil)) (pg_name (i := 5) nd rfl (by first | exact .inl rfl | exact .inr rfl | exact .inr (.inl rfl) | exact .inr (.inr rfl))) (js_less (w2 := []) (js_cons (js_if ((jw_or (jt_not (jt_val (je_call (ok__law_whole T) (hr.mono (by decide)) (L2N.takes_of rfl rfl rfl rfl) (by rfl) T.g__law_whole T.F__law_whole.kp T.b__law_whole (argN_cons argN_nil) (ja_cons (je_item rfl hu1 (je_var rfl 4) (je_var rfl 5)) (ja_nil))))) (jw_or (jt_cmp op_ltA fit_lt (je_item rfl hu1 (je_var rfl 4) (je_var rfl 5)) (je_int)) (jw_or (jt_cmp op_geA fit_ge (je_item rfl hu1 (je_var rfl 4) (je_var rfl 5)) (je_callB call_lenA fit_len (by rfl) T.n_len (by decide +kernel) (ja_cons (je_var rfl 0) (ja_nil)))) (jw_or1 ((jw_and (jt_cmp op_gtA fit_gt (je_var rfl 5) (je_int)) (jw_and1 (jt_cmp op_geA fit_ge (je_item rfl hu1 (je_var rfl 4) (je_bin op_sub fit_sub (je_var rfl 5) (je_int))) (je_item rfl hu1 (je_var rfl 4) (je_var rfl 5))))).pt))))).pt) (js_one (js_ret (je_bl))) (js_nil)) (js_one (js_if ((jw_or (jt_cmp (op_inA hu65) fit_in (je_item rfl hu1 (je_var rfl 4) (je_var rfl 5)) (je_var rfl 3)) (jw_or1 (jt_cmp (op_neA hu64) fit_ne (je_lc (tg := (.nm 6)) (own := [("one", 6)]) (by rfl) nd rfl (je_item rfl hu1 (je_var rfl 0) (je_item rfl hu1 (je_var rfl 4) (je_var rfl 5))) (blkOk_by (N := N__law_is_schedule) (sc := (defScope s__law_is_schedule)) (own := [("one", 6)]) (by decide +kernel)) ⟨fun _ _ _ _ _ => pg_name (i := 6) nd rfl (by first | exact .inl rfl | exact .inr rfl | exact .inr (.inl rfl) | exact .inr (.inr rfl)), fun _ _ _ _ _ _ _ => pts_one (jt_cmp (op_ninA hu65) fit_nin (je_var rfl 6) (je_var rfl 3)), fun _ _ _ _ _ _ _ => je_var rfl 6⟩ (by decide)) (je_lst (ja_nil))))).pt) (js_one (js_ret (je_bl))) (js_nil)))) (by decide))) (js_one (js_set 3 nd rfl (by first | exact .inl rfl | exact .inr rfl | exact .inr (.inl rfl) | exact .inr (.inr rfl)) (je_bin op_addA fit_add (je_var rfl 3) (je_callTy call_list_of fit_list (by rfl) T.n_list (by decide +kernel) (ja_cons (je_var rfl 4) (ja_nil)))))))) (by decide))) (js_one (js_ret (je_cmp (op_eqA hu64) fit_eq (je_callB call_lenA fit_len (by rfl) T.n_len (by decide +kernel) (ja_cons (je_var rfl 3) (ja_nil))) (je_callB call_lenA fit_len (by rfl) T.n_len (by decide +kernel) (ja_cons (je_var rfl 0) (ja_nil)))))))))
theorem ok__law_is_greedy (T : Top K mg) : FnOk P w K mg base (L2N.CX P w) 2 T.f__law_is_greedy T.fd__law_is_greedy ["graph", "cores", "schedule"] (spF K mg 3 F__law_is_greedy) :=
  fn_mir (N := N__law_is_greedy) (m := m__law_is_greedy) T.F__law_is_greedy sc__law_is_greedy fun cdv A outer s H E B hr => by
    have nd := sc__law_is_greedy.nd
    have hu65 := hr_65 hr
    have hu64 := hr_64 hr
    have hu1 := hr_1 hr
    exact (js_cons (js_set 3 nd rfl (by first | exact .inl rfl | exact .inr rfl | exact .inr (.inl rfl) | exact .inr (.inr rfl)) (je_lst (ja_nil))) (js_cons (js_for (tg := (.nm 4)) (passes_of rfl) (by rfl) rfl (je_var rfl 2) (pg_name (i := 4) nd rfl (by first | exact .inl rfl | exact .inr rfl | exact .inr (.inl rfl) | exact .inr (.inr rfl))) (js_less (w2 := [3]) (js_cons (js_if ((jw_or (jt_cmp (op_eqA hu64) fit_eq (je_callB call_lenA fit_len (by rfl) T.n_len (by decide +kernel) (ja_cons (je_var rfl 4) (ja_nil))) (je_int)) (jw_or1 (jt_cmp op_ltA fit_lt (je_callB call_lenA fit_len (by rfl) T.n_len (by decide +kernel) (ja_cons (je_var rfl 4) (ja_nil))) (je_callB (call_min3I (by rfl)) fit_min3 (by rfl) T.n_min (by decide +kernel) (ja_cons (je_int) (ja_cons (je_var rfl 1) (ja_cons (je_callB call_lenA fit_len (by rfl) T.n_len (by decide +kernel) (ja_cons (je_call (ok__law_free T) (hr.mono (by decide)) (L2N.takes_of rfl rfl rfl rfl) (by rfl) T.g__law_free T.F__law_free.kp T.b__law_free (argN_cons (argN_cons argN_nil)) (ja_cons (je_var rfl 0) (ja_cons (je_var rfl 3) (ja_nil)))) (ja_nil))) (ja_nil)))))))).pt) (js_one (js_ret (je_bl))) (js_nil)) (js_one (js_set 3 nd rfl (by first | exact .inl rfl | exact .inr rfl | exact .inr (.inl rfl) | exact .inr (.inr rfl)) (je_bin op_addA fit_add (je_var rfl 3) (je_callTy call_list_of fit_list (by rfl) T.n_list (by decide +kernel) (ja_cons (je_var rfl 4) (ja_nil))))))) (by decide))) (js_one (js_ret (je_bl)))))
theorem okG_law (T : Top K mg) : FnAt callerA P w K mg base (L2N.CX P w) T.f_law T.fd_law ["script"] (spF K mg 1 F_law) :=
  fn_mirG (k := 6) (N := N_law) (m := m_law) T.F_law sc_law ⟨rfl, by decide, by decide⟩ rfl fun cdv outer s H E B hr hgd => by
    have nd := sc_law.nd
    have hu65 := hr_65 hr
    have hu64 := hr_64 hr
    have hu1 := hr_1 hr
    exact (js_cons (js_set 1 nd rfl (by first | exact .inl rfl | exact .inr rfl | exact .inr (.inl rfl) | exact .inr (.inr rfl)) (je_bin op_addA fit_add (je_int) (je_item rfl hu1 (je_call (ok__law_draws T) (hr.mono (by decide)) (L2N.takes_of rfl rfl rfl rfl) (by rfl) T.g__law_draws T.F__law_draws.kp T.b__law_draws (argN_cons (argN_cons argN_nil)) (ja_cons (je_call (ok__law_cell T) (hr.mono (by decide)) (L2N.takes_of rfl rfl rfl rfl) (by rfl) T.g__law_cell T.F__law_cell.kp T.b__law_cell (argN_cons (argN_cons argN_nil)) (ja_cons (je_var rfl 0) (ja_cons (je_int) (ja_nil)))) (ja_cons (je_lst (ja_cons (je_int) (ja_nil))) (ja_nil)))) (je_int)))) (js_cons (js_set 2 nd rfl (by first | exact .inl rfl | exact .inr rfl | exact .inr (.inl rfl) | exact .inr (.inr rfl)) (je_call (ok__law_graph T) (hr.mono (by decide)) (L2N.takes_of rfl rfl rfl rfl) (by rfl) T.g__law_graph T.F__law_graph.kp T.b__law_graph (argN_cons (argN_cons (argN_cons argN_nil))) (ja_cons (je_var rfl 0) (ja_cons (je_int) (ja_cons (je_int) (ja_nil)))))) (js_cons (js_set 3 nd rfl (by first | exact .inl rfl | exact .inr rfl | exact .inr (.inl rfl) | exact .inr (.inr rfl)) (je_call (ok__law_drawn T) (hr.mono (by decide)) (L2N.takes_of rfl rfl rfl rfl) (by rfl) T.g__law_drawn T.F__law_drawn.kp T.b__law_drawn (argN_cons (argN_cons (argN_cons (argN_cons argN_nil)))) (ja_cons (je_var rfl 2) (ja_cons (je_var rfl 1) (ja_cons (je_call (ok__law_cell T) (hr.mono (by decide)) (L2N.takes_of rfl rfl rfl rfl) (by rfl) T.g__law_cell T.F__law_cell.kp T.b__law_cell (argN_cons (argN_cons argN_nil)) (ja_cons (je_var rfl 0) (ja_cons (je_int) (ja_nil)))) (ja_cons (je_bl) (ja_nil))))))) (js_cons (js_set 4 nd rfl (by first | exact .inl rfl | exact .inr rfl | exact .inr (.inl rfl) | exact .inr (.inr rfl)) (je_call (ok__law_drawn T) (hr.mono (by decide)) (L2N.takes_of rfl rfl rfl rfl) (by rfl) T.g__law_drawn T.F__law_drawn.kp T.b__law_drawn (argN_cons (argN_cons (argN_cons (argN_cons argN_nil)))) (ja_cons (je_var rfl 2) (ja_cons (je_var rfl 1) (ja_cons (je_call (ok__law_cell T) (hr.mono (by decide)) (L2N.takes_of rfl rfl rfl rfl) (by rfl) T.g__law_cell T.F__law_cell.kp T.b__law_cell (argN_cons (argN_cons argN_nil)) (ja_cons (je_var rfl 0) (ja_cons (je_int) (ja_nil)))) (ja_cons (je_bl) (ja_nil))))))) (js_cons (js_set 5 nd rfl (by first | exact .inl rfl | exact .inr rfl | exact .inr (.inl rfl) | exact .inr (.inr rfl)) (je_callTy call_tuple_of fit_tuple (by rfl) T.n_tuple (by decide +kernel) (ja_cons (je_lcR (tg := (.nm 10)) (own := [("k", 10)]) (by rfl) nd rfl (by rfl) T.n_range (ja_cons (je_callB call_lenA fit_len (by rfl) T.n_len (by decide +kernel) (ja_cons (je_var rfl 2) (ja_nil))) (ja_nil)) (blkOk_by (N := N_law) (sc := (defScope s_law)) (own := [("k", 10)]) (by decide +kernel)) ⟨fun _ _ _ _ _ => pg_name (i := 10) nd rfl (by first | exact .inl rfl | exact .inr rfl | exact .inr (.inl rfl) | exact .inr (.inr rfl)), fun _ _ _ _ _ _ _ => jts_nil, fun _ _ _ _ _ _ _ => je_tup (ja_cons (je_var rfl 10) (ja_nil))⟩ (by decide)) (ja_nil)))) (js_cons (js_for (tg := (.nm 6)) (passes_of rfl) (by rfl) rfl (je_lst (ja_cons (je_var rfl 3) (ja_cons (je_var rfl 4) (ja_cons (je_var rfl 5) (ja_cons (je_bin op_addA fit_add (je_var rfl 3) (je_tup (ja_cons (je_tup (ja_nil)) (ja_cons (je_tup (ja_nil)) (ja_nil))))) (ja_nil)))))) (pg_name (i := 6) nd rfl (by first | exact .inl rfl | exact .inr rfl | exact .inr (.inl rfl) | exact .inr (.inr rfl))) (js_less (w2 := [7, 8, 9]) (js_cons (js_if (jt_not (jt_val (je_call (ok__law_is_schedule T) (hr.mono (by decide)) (L2N.takes_of rfl rfl rfl rfl) (by rfl) T.g__law_is_schedule T.F__law_is_schedule.kp T.b__law_is_schedule (argN_cons (argN_cons (argN_cons argN_nil))) (ja_cons (je_var rfl 2) (ja_cons (je_var rfl 1) (ja_cons (je_var rfl 6) (ja_nil))))))) (js_one (js_ret (je_bl))) (js_nil)) (js_cons (js_set 7 nd rfl (by first | exact .inl rfl | exact .inr rfl | exact .inr (.inl rfl) | exact .inr (.inr rfl)) (je_lst (ja_nil))) (js_cons (js_for (tg := (.nm 8)) (passes_of rfl) (by rfl) rfl (je_var rfl 6) (pg_name (i := 8) nd rfl (by first | exact .inl rfl | exact .inr rfl | exact .inr (.inl rfl) | exact .inr (.inr rfl))) (js_less (w2 := [7]) (js_one (js_set 7 nd rfl (by first | exact .inl rfl | exact .inr rfl | exact .inr (.inl rfl) | exact .inr (.inr rfl)) (je_bin op_addA fit_add (je_var rfl 7) (je_callTy call_list_of fit_list (by rfl) T.n_list (by decide +kernel) (ja_cons (je_var rfl 8) (ja_nil)))))) (by decide))) (js_cons (js_set 9 nd rfl (by first | exact .inl rfl | exact .inr rfl | exact .inr (.inl rfl) | exact .inr (.inr rfl)) (je_call (ok_cut_down T) (hr.mono (by decide)) (L2N.takes_of rfl rfl rfl rfl) (by rfl) T.g_cut_down T.F_cut_down.kp T.b_cut_down (argN_cons (argN_cons (argN_cons argN_nil))) (ja_cons (je_var rfl 2) (ja_cons (je_var rfl 1) (ja_cons (je_var rfl 6) (ja_nil)))))) (js_cons (js_if ((jw_or (jt_cmp (op_neA hu64) fit_ne (je_callB (call_reprD hgd hu65) fit_repr (by rfl) T.n_repr (by decide +kernel) (ja_cons (je_var rfl 9) (ja_nil))) (je_callB (call_reprD hgd hu65) fit_repr (by rfl) T.n_repr (by decide +kernel) (ja_cons (je_call (ok__law_listed T) (hr.mono (by decide)) (L2N.takes_of rfl rfl rfl rfl) (by rfl) T.g__law_listed T.F__law_listed.kp T.b__law_listed (argN_cons (argN_cons (argN_cons argN_nil))) (ja_cons (je_var rfl 2) (ja_cons (je_var rfl 1) (ja_cons (je_var rfl 7) (ja_nil))))) (ja_nil)))) (jw_or1 (jt_cmp op_gtA fit_gt (je_callB call_lenA fit_len (by rfl) T.n_len (by decide +kernel) (ja_cons (je_var rfl 9) (ja_nil))) (je_callB call_lenA fit_len (by rfl) T.n_len (by decide +kernel) (ja_cons (je_var rfl 6) (ja_nil)))))).pt) (js_one (js_ret (je_bl))) (js_nil)) (js_cons (js_if ((jw_or (jt_not (jt_val (je_call (ok__law_is_schedule T) (hr.mono (by decide)) (L2N.takes_of rfl rfl rfl rfl) (by rfl) T.g__law_is_schedule T.F__law_is_schedule.kp T.b__law_is_schedule (argN_cons (argN_cons (argN_cons argN_nil))) (ja_cons (je_var rfl 2) (ja_cons (je_var rfl 1) (ja_cons (je_var rfl 9) (ja_nil))))))) (jw_or1 (jt_not (jt_val (je_call (ok__law_is_greedy T) (hr.mono (by decide)) (L2N.takes_of rfl rfl rfl rfl) (by rfl) T.g__law_is_greedy T.F__law_is_greedy.kp T.b__law_is_greedy (argN_cons (argN_cons (argN_cons argN_nil))) (ja_cons (je_var rfl 2) (ja_cons (je_var rfl 1) (ja_cons (je_var rfl 9) (ja_nil))))))))).pt) (js_one (js_ret (je_bl))) (js_nil)) (js_one (js_if ((jw_or (jt_cmp op_nisA fit_nis (je_call (ok_is_schedule T) (hr.mono (by decide)) (L2N.takes_of rfl rfl rfl rfl) (by rfl) T.g_is_schedule T.F_is_schedule.kp T.b_is_schedule (argN_cons (argN_cons (argN_cons argN_nil))) (ja_cons (je_var rfl 2) (ja_cons (je_var rfl 1) (ja_cons (je_var rfl 9) (ja_nil))))) (je_bl)) (jw_or1 (jt_cmp op_nisA fit_nis (je_call (ok_is_greedy T) (hr.mono (by decide)) (L2N.takes_of rfl rfl rfl rfl) (by rfl) T.g_is_greedy T.F_is_greedy.kp T.b_is_greedy (argN_cons (argN_cons (argN_cons argN_nil))) (ja_cons (je_var rfl 2) (ja_cons (je_var rfl 1) (ja_cons (je_var rfl 9) (ja_nil))))) (je_bl)))).pt) (js_one (js_ret (je_bl))) (js_nil))))))))) (by decide))) (js_one (js_ret (je_bl)))))))))
end
end K22

namespace K22
open PySem PySem.Spec PyProof.Rows L2
noncomputable def mkTop {K : Kf} {h : Heap} {mg : Str → Option Value} (X : K.In h) (G : h.Ns mainGlobals mg)
    {a_is_integer : Addr} {od_is_integer an_is_integer : Option Addr} {sl_is_integer : Array (Option Value)} {oc_is_integer kV_is_integer dc_is_integer pm_is_integer cd_is_integer ct_is_integer : Value}
    {a_is_row : Addr} {od_is_row an_is_row : Option Addr} {sl_is_row : Array (Option Value)} {oc_is_row kV_is_row dc_is_row pm_is_row cd_is_row ct_is_row : Value}
    {a_is_graph : Addr} {od_is_graph an_is_graph : Option Addr} {sl_is_graph : Array (Option Value)} {oc_is_graph kV_is_graph dc_is_graph pm_is_graph cd_is_graph ct_is_graph : Value}
    {a_check_graph : Addr} {od_check_graph an_check_graph : Option Addr} {sl_check_graph : Array (Option Value)} {oc_check_graph kV_check_graph dc_check_graph pm_check_graph cd_check_graph ct_check_graph : Value}
    {a_nodes_of : Addr} {od_nodes_of an_nodes_of : Option Addr} {sl_nodes_of : Array (Option Value)} {oc_nodes_of kV_nodes_of dc_nodes_of pm_nodes_of cd_nodes_of ct_nodes_of : Value}
    {a_is_schedule : Addr} {od_is_schedule an_is_schedule : Option Addr} {sl_is_schedule : Array (Option Value)} {oc_is_schedule kV_is_schedule dc_is_schedule pm_is_schedule cd_is_schedule ct_is_schedule : Value}
    {a_is_free : Addr} {od_is_free an_is_free : Option Addr} {sl_is_free : Array (Option Value)} {oc_is_free kV_is_free dc_is_free pm_is_free cd_is_free ct_is_free : Value}
    {a_free_nodes : Addr} {od_free_nodes an_free_nodes : Option Addr} {sl_free_nodes : Array (Option Value)} {oc_free_nodes kV_free_nodes dc_free_nodes pm_free_nodes cd_free_nodes ct_free_nodes : Value}
    {a_is_greedy : Addr} {od_is_greedy an_is_greedy : Option Addr} {sl_is_greedy : Array (Option Value)} {oc_is_greedy kV_is_greedy dc_is_greedy pm_is_greedy cd_is_greedy ct_is_greedy : Value}
    {a_listed : Addr} {od_listed an_listed : Option Addr} {sl_listed : Array (Option Value)} {oc_listed kV_listed dc_listed pm_listed cd_listed ct_listed : Value}
    {a_cut_down : Addr} {od_cut_down an_cut_down : Option Addr} {sl_cut_down : Array (Option Value)} {oc_cut_down kV_cut_down dc_cut_down pm_cut_down cd_cut_down ct_cut_down : Value}
    {a__law_whole : Addr} {od__law_whole an__law_whole : Option Addr} {sl__law_whole : Array (Option Value)} {oc__law_whole kV__law_whole dc__law_whole pm__law_whole cd__law_whole ct__law_whole : Value}
    {a__law_cell : Addr} {od__law_cell an__law_cell : Option Addr} {sl__law_cell : Array (Option Value)} {oc__law_cell kV__law_cell dc__law_cell pm__law_cell cd__law_cell ct__law_cell : Value}
    {a__law_draws : Addr} {od__law_draws an__law_draws : Option Addr} {sl__law_draws : Array (Option Value)} {oc__law_draws kV__law_draws dc__law_draws pm__law_draws cd__law_draws ct__law_draws : Value}
    {a__law_graph : Addr} {od__law_graph an__law_graph : Option Addr} {sl__law_graph : Array (Option Value)} {oc__law_graph kV__law_graph dc__law_graph pm__law_graph cd__law_graph ct__law_graph : Value}
    {a__law_free : Addr} {od__law_free an__law_free : Option Addr} {sl__law_free : Array (Option Value)} {oc__law_free kV__law_free dc__law_free pm__law_free cd__law_free ct__law_free : Value}
    {a__law_listed : Addr} {od__law_listed an__law_listed : Option Addr} {sl__law_listed : Array (Option Value)} {oc__law_listed kV__law_listed dc__law_listed pm__law_listed cd__law_listed ct__law_listed : Value}
    {a__law_drawn : Addr} {od__law_drawn an__law_drawn : Option Addr} {sl__law_drawn : Array (Option Value)} {oc__law_drawn kV__law_drawn dc__law_drawn pm__law_drawn cd__law_drawn ct__law_drawn : Value}
    {a__law_is_schedule : Addr} {od__law_is_schedule an__law_is_schedule : Option Addr} {sl__law_is_schedule : Array (Option Value)} {oc__law_is_schedule kV__law_is_schedule dc__law_is_schedule pm__law_is_schedule cd__law_is_schedule ct__law_is_schedule : Value}
    {a__law_is_greedy : Addr} {od__law_is_greedy an__law_is_greedy : Option Addr} {sl__law_is_greedy : Array (Option Value)} {oc__law_is_greedy kV__law_is_greedy dc__law_is_greedy pm__law_is_greedy cd__law_is_greedy ct__law_is_greedy : Value}
    {a_law : Addr} {od_law an_law : Option Addr} {sl_law : Array (Option Value)} {oc_law kV_law dc_law pm_law cd_law ct_law : Value}
    {C_InvalidGraph I_InvalidGraph : Addr} {nm_InvalidGraph q_InvalidGraph : Str} {N_InvalidGraph : Addr} {bs_InvalidGraph bm_InvalidGraph : List Value} {sn_InvalidGraph : List Str} {su_InvalidGraph : List Value} {ab_InvalidGraph : Bool} {co_InvalidGraph : Option Bool} {dd_InvalidGraph : Option Addr} {m0_InvalidGraph m1_InvalidGraph m2_InvalidGraph m3_InvalidGraph m5_InvalidGraph : Option Value} {od_InvalidGraph an_InvalidGraph : Option Addr} {sl_InvalidGraph : Array (Option Value)} {oc_InvalidGraph kV_InvalidGraph dc_InvalidGraph pm_InvalidGraph cd_InvalidGraph ct_InvalidGraph : Value}
    (p_is_integer : W.nsIn K mainGlobals "is_integer" = some (some (.ref a_is_integer)))
    (l_is_integer : K.lookup a_is_integer = some ⟨oc_is_integer, od_is_integer, .func (W.fnOf "is_integer" "is_integer" (defArgs s_is_integer) (defBody s_is_integer) (defScope s_is_integer) .none kV_is_integer dc_is_integer pm_is_integer an_is_integer cd_is_integer ct_is_integer), sl_is_integer⟩)
    (c_is_integer : W.codeIn K cd_is_integer "is_integer" = true)
    (k_is_integer : W.keepIn K (.ref a_is_integer) = true)
    (p_is_row : W.nsIn K mainGlobals "is_row" = some (some (.ref a_is_row)))
    (l_is_row : K.lookup a_is_row = some ⟨oc_is_row, od_is_row, .func (W.fnOf "is_row" "is_row" (defArgs s_is_row) (defBody s_is_row) (defScope s_is_row) .none kV_is_row dc_is_row pm_is_row an_is_row cd_is_row ct_is_row), sl_is_row⟩)
    (c_is_row : W.codeIn K cd_is_row "is_row" = true)
    (k_is_row : W.keepIn K (.ref a_is_row) = true)
    (p_is_graph : W.nsIn K mainGlobals "is_graph" = some (some (.ref a_is_graph)))
    (l_is_graph : K.lookup a_is_graph = some ⟨oc_is_graph, od_is_graph, .func (W.fnOf "is_graph" "is_graph" (defArgs s_is_graph) (defBody s_is_graph) (defScope s_is_graph) .none kV_is_graph dc_is_graph pm_is_graph an_is_graph cd_is_graph ct_is_graph), sl_is_graph⟩)
    (c_is_graph : W.codeIn K cd_is_graph "is_graph" = true)
    (k_is_graph : W.keepIn K (.ref a_is_graph) = true)
    (p_check_graph : W.nsIn K mainGlobals "check_graph" = some (some (.ref a_check_graph)))
    (l_check_graph : K.lookup a_check_graph = some ⟨oc_check_graph, od_check_graph, .func (W.fnOf "check_graph" "check_graph" (defArgs s_check_graph) (defBody s_check_graph) (defScope s_check_graph) .none kV_check_graph dc_check_graph pm_check_graph an_check_graph cd_check_graph ct_check_graph), sl_check_graph⟩)
    (c_check_graph : W.codeIn K cd_check_graph "check_graph" = true)
    (k_check_graph : W.keepIn K (.ref a_check_graph) = true)
    (p_nodes_of : W.nsIn K mainGlobals "nodes_of" = some (some (.ref a_nodes_of)))
    (l_nodes_of : K.lookup a_nodes_of = some ⟨oc_nodes_of, od_nodes_of, .func (W.fnOf "nodes_of" "nodes_of" (defArgs s_nodes_of) (defBody s_nodes_of) (defScope s_nodes_of) .none kV_nodes_of dc_nodes_of pm_nodes_of an_nodes_of cd_nodes_of ct_nodes_of), sl_nodes_of⟩)
    (c_nodes_of : W.codeIn K cd_nodes_of "nodes_of" = true)
    (k_nodes_of : W.keepIn K (.ref a_nodes_of) = true)
    (p_is_schedule : W.nsIn K mainGlobals "is_schedule" = some (some (.ref a_is_schedule)))
    (l_is_schedule : K.lookup a_is_schedule = some ⟨oc_is_schedule, od_is_schedule, .func (W.fnOf "is_schedule" "is_schedule" (defArgs s_is_schedule) (defBody s_is_schedule) (defScope s_is_schedule) .none kV_is_schedule dc_is_schedule pm_is_schedule an_is_schedule cd_is_schedule ct_is_schedule), sl_is_schedule⟩)
    (c_is_schedule : W.codeIn K cd_is_schedule "is_schedule" = true)
    (k_is_schedule : W.keepIn K (.ref a_is_schedule) = true)
    (p_is_free : W.nsIn K mainGlobals "is_free" = some (some (.ref a_is_free)))
    (l_is_free : K.lookup a_is_free = some ⟨oc_is_free, od_is_free, .func (W.fnOf "is_free" "is_free" (defArgs s_is_free) (defBody s_is_free) (defScope s_is_free) .none kV_is_free dc_is_free pm_is_free an_is_free cd_is_free ct_is_free), sl_is_free⟩)
    (c_is_free : W.codeIn K cd_is_free "is_free" = true)
    (k_is_free : W.keepIn K (.ref a_is_free) = true)
    (p_free_nodes : W.nsIn K mainGlobals "free_nodes" = some (some (.ref a_free_nodes)))
    (l_free_nodes : K.lookup a_free_nodes = some ⟨oc_free_nodes, od_free_nodes, .func (W.fnOf "free_nodes" "free_nodes" (defArgs s_free_nodes) (defBody s_free_nodes) (defScope s_free_nodes) .none kV_free_nodes dc_free_nodes pm_free_nodes an_free_nodes cd_free_nodes ct_free_nodes), sl_free_nodes⟩)
    (c_free_nodes : W.codeIn K cd_free_nodes "free_nodes" = true)
    (k_free_nodes : W.keepIn K (.ref a_free_nodes) = true)
    (p_is_greedy : W.nsIn K mainGlobals "is_greedy" = some (some (.ref a_is_greedy)))
    (l_is_greedy : K.lookup a_is_greedy = some ⟨oc_is_greedy, od_is_greedy, .func (W.fnOf "is_greedy" "is_greedy" (defArgs s_is_greedy) (defBody s_is_greedy) (defScope s_is_greedy) .none kV_is_greedy dc_is_greedy pm_is_greedy an_is_greedy cd_is_greedy ct_is_greedy), sl_is_greedy⟩)
    (c_is_greedy : W.codeIn K cd_is_greedy "is_greedy" = true)
    (k_is_greedy : W.keepIn K (.ref a_is_greedy) = true)
    (p_listed : W.nsIn K mainGlobals "listed" = some (some (.ref a_listed)))
    (l_listed : K.lookup a_listed = some ⟨oc_listed, od_listed, .func (W.fnOf "listed" "listed" (defArgs s_listed) (defBody s_listed) (defScope s_listed) .none kV_listed dc_listed pm_listed an_listed cd_listed ct_listed), sl_listed⟩)
    (c_listed : W.codeIn K cd_listed "listed" = true)
    (k_listed : W.keepIn K (.ref a_listed) = true)
    (p_cut_down : W.nsIn K mainGlobals "cut_down" = some (some (.ref a_cut_down)))
    (l_cut_down : K.lookup a_cut_down = some ⟨oc_cut_down, od_cut_down, .func (W.fnOf "cut_down" "cut_down" (defArgs s_cut_down) (defBody s_cut_down) (defScope s_cut_down) .none kV_cut_down dc_cut_down pm_cut_down an_cut_down cd_cut_down ct_cut_down), sl_cut_down⟩)
    (c_cut_down : W.codeIn K cd_cut_down "cut_down" = true)
    (k_cut_down : W.keepIn K (.ref a_cut_down) = true)
    (p__law_whole : W.nsIn K mainGlobals "_law_whole" = some (some (.ref a__law_whole)))
    (l__law_whole : K.lookup a__law_whole = some ⟨oc__law_whole, od__law_whole, .func (W.fnOf "_law_whole" "_law_whole" (defArgs s__law_whole) (defBody s__law_whole) (defScope s__law_whole) .none kV__law_whole dc__law_whole pm__law_whole an__law_whole cd__law_whole ct__law_whole), sl__law_whole⟩)
    (c__law_whole : W.codeIn K cd__law_whole "_law_whole" = true)
    (k__law_whole : W.keepIn K (.ref a__law_whole) = true)
    (p__law_cell : W.nsIn K mainGlobals "_law_cell" = some (some (.ref a__law_cell)))
    (l__law_cell : K.lookup a__law_cell = some ⟨oc__law_cell, od__law_cell, .func (W.fnOf "_law_cell" "_law_cell" (defArgs s__law_cell) (defBody s__law_cell) (defScope s__law_cell) .none kV__law_cell dc__law_cell pm__law_cell an__law_cell cd__law_cell ct__law_cell), sl__law_cell⟩)
    (c__law_cell : W.codeIn K cd__law_cell "_law_cell" = true)
    (k__law_cell : W.keepIn K (.ref a__law_cell) = true)
    (p__law_draws : W.nsIn K mainGlobals "_law_draws" = some (some (.ref a__law_draws)))
    (l__law_draws : K.lookup a__law_draws = some ⟨oc__law_draws, od__law_draws, .func (W.fnOf "_law_draws" "_law_draws" (defArgs s__law_draws) (defBody s__law_draws) (defScope s__law_draws) .none kV__law_draws dc__law_draws pm__law_draws an__law_draws cd__law_draws ct__law_draws), sl__law_draws⟩)
    (c__law_draws : W.codeIn K cd__law_draws "_law_draws" = true)
    (k__law_draws : W.keepIn K (.ref a__law_draws) = true)
    (p__law_graph : W.nsIn K mainGlobals "_law_graph" = some (some (.ref a__law_graph)))
    (l__law_graph : K.lookup a__law_graph = some ⟨oc__law_graph, od__law_graph, .func (W.fnOf "_law_graph" "_law_graph" (defArgs s__law_graph) (defBody s__law_graph) (defScope s__law_graph) .none kV__law_graph dc__law_graph pm__law_graph an__law_graph cd__law_graph ct__law_graph), sl__law_graph⟩)
    (c__law_graph : W.codeIn K cd__law_graph "_law_graph" = true)
    (k__law_graph : W.keepIn K (.ref a__law_graph) = true)
    (p__law_free : W.nsIn K mainGlobals "_law_free" = some (some (.ref a__law_free)))
    (l__law_free : K.lookup a__law_free = some ⟨oc__law_free, od__law_free, .func (W.fnOf "_law_free" "_law_free" (defArgs s__law_free) (defBody s__law_free) (defScope s__law_free) .none kV__law_free dc__law_free pm__law_free an__law_free cd__law_free ct__law_free), sl__law_free⟩)
    (c__law_free : W.codeIn K cd__law_free "_law_free" = true)
    (k__law_free : W.keepIn K (.ref a__law_free) = true)
    (p__law_listed : W.nsIn K mainGlobals "_law_listed" = some (some (.ref a__law_listed)))
    (l__law_listed : K.lookup a__law_listed = some ⟨oc__law_listed, od__law_listed, .func (W.fnOf "_law_listed" "_law_listed" (defArgs s__law_listed) (defBody s__law_listed) (defScope s__law_listed) .none kV__law_listed dc__law_listed pm__law_listed an__law_listed cd__law_listed ct__law_listed), sl__law_listed⟩)
    (c__law_listed : W.codeIn K cd__law_listed "_law_listed" = true)
    (k__law_listed : W.keepIn K (.ref a__law_listed) = true)
    (p__law_drawn : W.nsIn K mainGlobals "_law_drawn" = some (some (.ref a__law_drawn)))
    (l__law_drawn : K.lookup a__law_drawn = some ⟨oc__law_drawn, od__law_drawn, .func (W.fnOf "_law_drawn" "_law_drawn" (defArgs s__law_drawn) (defBody s__law_drawn) (defScope s__law_drawn) .none kV__law_drawn dc__law_drawn pm__law_drawn an__law_drawn cd__law_drawn ct__law_drawn), sl__law_drawn⟩)
    (c__law_drawn : W.codeIn K cd__law_drawn "_law_drawn" = true)
    (k__law_drawn : W.keepIn K (.ref a__law_drawn) = true)
    (p__law_is_schedule : W.nsIn K mainGlobals "_law_is_schedule" = some (some (.ref a__law_is_schedule)))
    (l__law_is_schedule : K.lookup a__law_is_schedule = some ⟨oc__law_is_schedule, od__law_is_schedule, .func (W.fnOf "_law_is_schedule" "_law_is_schedule" (defArgs s__law_is_schedule) (defBody s__law_is_schedule) (defScope s__law_is_schedule) .none kV__law_is_schedule dc__law_is_schedule pm__law_is_schedule an__law_is_schedule cd__law_is_schedule ct__law_is_schedule), sl__law_is_schedule⟩)
    (c__law_is_schedule : W.codeIn K cd__law_is_schedule "_law_is_schedule" = true)
    (k__law_is_schedule : W.keepIn K (.ref a__law_is_schedule) = true)
    (p__law_is_greedy : W.nsIn K mainGlobals "_law_is_greedy" = some (some (.ref a__law_is_greedy)))
    (l__law_is_greedy : K.lookup a__law_is_greedy = some ⟨oc__law_is_greedy, od__law_is_greedy, .func (W.fnOf "_law_is_greedy" "_law_is_greedy" (defArgs s__law_is_greedy) (defBody s__law_is_greedy) (defScope s__law_is_greedy) .none kV__law_is_greedy dc__law_is_greedy pm__law_is_greedy an__law_is_greedy cd__law_is_greedy ct__law_is_greedy), sl__law_is_greedy⟩)
    (c__law_is_greedy : W.codeIn K cd__law_is_greedy "_law_is_greedy" = true)
    (k__law_is_greedy : W.keepIn K (.ref a__law_is_greedy) = true)
    (p_law : W.nsIn K mainGlobals "law" = some (some (.ref a_law)))
    (l_law : K.lookup a_law = some ⟨oc_law, od_law, .func (W.fnOf "law" "law" (defArgs s_law) (defBody s_law) (defScope s_law) .none kV_law dc_law pm_law an_law cd_law ct_law), sl_law⟩)
    (c_law : W.codeIn K cd_law "law" = true)
    (k_law : W.keepIn K (.ref a_law) = true)
    (z_abs : W.nsIn K mainGlobals "abs" = some none)
    (z_all : W.nsIn K mainGlobals "all" = some none)
    (z_bool : W.nsIn K mainGlobals "bool" = some none)
    (z_enumerate : W.nsIn K mainGlobals "enumerate" = some none)
    (z_int : W.nsIn K mainGlobals "int" = some none)
    (z_isinstance : W.nsIn K mainGlobals "isinstance" = some none)
    (z_len : W.nsIn K mainGlobals "len" = some none)
    (z_list : W.nsIn K mainGlobals "list" = some none)
    (z_max : W.nsIn K mainGlobals "max" = some none)
    (z_min : W.nsIn K mainGlobals "min" = some none)
    (z_range : W.nsIn K mainGlobals "range" = some none)
    (z_repr : W.nsIn K mainGlobals "repr" = some none)
    (z_set : W.nsIn K mainGlobals "set" = some none)
    (z_sorted : W.nsIn K mainGlobals "sorted" = some none)
    (z_tuple : W.nsIn K mainGlobals "tuple" = some none)
    (pC_InvalidGraph : W.nsIn K mainGlobals "InvalidGraph" = some (some (.ref C_InvalidGraph)))
    (xC_InvalidGraph : K.lookup C_InvalidGraph = some (excClassObj nm_InvalidGraph q_InvalidGraph C_InvalidGraph N_InvalidGraph bs_InvalidGraph bm_InvalidGraph true sn_InvalidGraph su_InvalidGraph ab_InvalidGraph co_InvalidGraph dd_InvalidGraph m0_InvalidGraph m1_InvalidGraph m2_InvalidGraph m3_InvalidGraph m5_InvalidGraph "ValueError.__new__"))
    (vC_InvalidGraph : HandSPX.refsVE bm_InvalidGraph = true)
    (sa_InvalidGraph : W.findIn K (.ref C_InvalidGraph) "__setattr__" = some (some (.builtin "object.__setattr__")))
    (ga_InvalidGraph : W.findIn K (.ref C_InvalidGraph) "__getattribute__" = some (some (.builtin "BaseException.__getattribute__")))
    (gg_InvalidGraph : W.findIn K (.ref C_InvalidGraph) "__getattr__" = some none)
    (nf_InvalidGraph_value : W.findIn K (.ref C_InvalidGraph) "value" = some none)
    (iC_InvalidGraph : W.findIn K (.ref C_InvalidGraph) "__init__" = some (some (.ref I_InvalidGraph)))
    (tI_InvalidGraph : W.typeIn K (.ref I_InvalidGraph) = some (.type "function"))
    (lI_InvalidGraph : K.lookup I_InvalidGraph = some ⟨oc_InvalidGraph, od_InvalidGraph, .func (W.fnOf "__init__" "InvalidGraph.__init__" (defArgs s_InvalidGraph_init) (defBody s_InvalidGraph_init) (defScope s_InvalidGraph_init) .none kV_InvalidGraph dc_InvalidGraph pm_InvalidGraph an_InvalidGraph cd_InvalidGraph ct_InvalidGraph), sl_InvalidGraph⟩)
    (cI_InvalidGraph : W.codeIn K cd_InvalidGraph "InvalidGraph.__init__" = true)
    (kI_InvalidGraph : W.keepIn K (.ref I_InvalidGraph) = true)
    (kC_InvalidGraph : W.keepIn K (.ref C_InvalidGraph) = true)
    (eC_InvalidGraph : W.subIn K (.ref C_InvalidGraph) (.type "BaseException") = some true)
    (tC_InvalidGraph : W.typeIn K (.ref C_InvalidGraph) = some (.type "type"))
    (hC_InvalidGraph : W.hasDictIn K C_InvalidGraph = true)
    (jC_InvalidGraph : W.isClsIn K C_InvalidGraph = true)
    (sC_InvalidGraph : W.subIn K (.ref C_InvalidGraph) (.ref C_InvalidGraph) = some true) : Top K mg where
  f_is_integer := a_is_integer
  fd_is_integer := _
  F_is_integer := fun_mk (st := s_is_integer) l_is_integer c_is_integer k_is_integer
  g_is_integer := W.mg_of X G p_is_integer
  b_is_integer := (fun_mk (st := s_is_integer) l_is_integer c_is_integer k_is_integer).binds (ps := ["value"]) fun _ _ _ _ _ _ us hl => match us, hl with | [_], _ => rfl
  kb_is_integer := fun s us _ hl => match us, hl with | [_], _ => .of_eq rfl
  f_is_row := a_is_row
  fd_is_row := _
  F_is_row := fun_mk (st := s_is_row) l_is_row c_is_row k_is_row
  g_is_row := W.mg_of X G p_is_row
  b_is_row := (fun_mk (st := s_is_row) l_is_row c_is_row k_is_row).binds (ps := ["value", "limit"]) fun _ _ _ _ _ _ us hl => match us, hl with | [_, _], _ => rfl
  kb_is_row := fun s us _ hl => match us, hl with | [_, _], _ => .of_eq rfl
  f_is_graph := a_is_graph
  fd_is_graph := _
  F_is_graph := fun_mk (st := s_is_graph) l_is_graph c_is_graph k_is_graph
  g_is_graph := W.mg_of X G p_is_graph
  b_is_graph := (fun_mk (st := s_is_graph) l_is_graph c_is_graph k_is_graph).binds (ps := ["value"]) fun _ _ _ _ _ _ us hl => match us, hl with | [_], _ => rfl
  kb_is_graph := fun s us _ hl => match us, hl with | [_], _ => .of_eq rfl
  f_check_graph := a_check_graph
  fd_check_graph := _
  F_check_graph := fun_mk (st := s_check_graph) l_check_graph c_check_graph k_check_graph
  g_check_graph := W.mg_of X G p_check_graph
  b_check_graph := (fun_mk (st := s_check_graph) l_check_graph c_check_graph k_check_graph).binds (ps := ["graph"]) fun _ _ _ _ _ _ us hl => match us, hl with | [_], _ => rfl
  kb_check_graph := fun s us _ hl => match us, hl with | [_], _ => .of_eq rfl
  f_nodes_of := a_nodes_of
  fd_nodes_of := _
  F_nodes_of := fun_mk (st := s_nodes_of) l_nodes_of c_nodes_of k_nodes_of
  g_nodes_of := W.mg_of X G p_nodes_of
  b_nodes_of := (fun_mk (st := s_nodes_of) l_nodes_of c_nodes_of k_nodes_of).binds (ps := ["schedule"]) fun _ _ _ _ _ _ us hl => match us, hl with | [_], _ => rfl
  kb_nodes_of := fun s us _ hl => match us, hl with | [_], _ => .of_eq rfl
  f_is_schedule := a_is_schedule
  fd_is_schedule := _
  F_is_schedule := fun_mk (st := s_is_schedule) l_is_schedule c_is_schedule k_is_schedule
  g_is_schedule := W.mg_of X G p_is_schedule
  b_is_schedule := (fun_mk (st := s_is_schedule) l_is_schedule c_is_schedule k_is_schedule).binds (ps := ["graph", "cores", "value"]) fun _ _ _ _ _ _ us hl => match us, hl with | [_, _, _], _ => rfl
  kb_is_schedule := fun s us _ hl => match us, hl with | [_, _, _], _ => .of_eq rfl
  f_is_free := a_is_free
  fd_is_free := _
  F_is_free := fun_mk (st := s_is_free) l_is_free c_is_free k_is_free
  g_is_free := W.mg_of X G p_is_free
  b_is_free := (fun_mk (st := s_is_free) l_is_free c_is_free k_is_free).binds (ps := ["graph", "done", "node"]) fun _ _ _ _ _ _ us hl => match us, hl with | [_, _, _], _ => rfl
  kb_is_free := fun s us _ hl => match us, hl with | [_, _, _], _ => .of_eq rfl
  f_free_nodes := a_free_nodes
  fd_free_nodes := _
  F_free_nodes := fun_mk (st := s_free_nodes) l_free_nodes c_free_nodes k_free_nodes
  g_free_nodes := W.mg_of X G p_free_nodes
  b_free_nodes := (fun_mk (st := s_free_nodes) l_free_nodes c_free_nodes k_free_nodes).binds (ps := ["graph", "done"]) fun _ _ _ _ _ _ us hl => match us, hl with | [_, _], _ => rfl
  kb_free_nodes := fun s us _ hl => match us, hl with | [_, _], _ => .of_eq rfl
  f_is_greedy := a_is_greedy
  fd_is_greedy := _
  F_is_greedy := fun_mk (st := s_is_greedy) l_is_greedy c_is_greedy k_is_greedy
  g_is_greedy := W.mg_of X G p_is_greedy
  b_is_greedy := (fun_mk (st := s_is_greedy) l_is_greedy c_is_greedy k_is_greedy).binds (ps := ["graph", "cores", "schedule"]) fun _ _ _ _ _ _ us hl => match us, hl with | [_, _, _], _ => rfl
  kb_is_greedy := fun s us _ hl => match us, hl with | [_, _, _], _ => .of_eq rfl
  f_listed := a_listed
  fd_listed := _
  F_listed := fun_mk (st := s_listed) l_listed c_listed k_listed
  g_listed := W.mg_of X G p_listed
  b_listed := (fun_mk (st := s_listed) l_listed c_listed k_listed).binds (ps := ["graph", "cores", "order"]) fun _ _ _ _ _ _ us hl => match us, hl with | [_, _, _], _ => rfl
  kb_listed := fun s us _ hl => match us, hl with | [_, _, _], _ => .of_eq rfl
  f_cut_down := a_cut_down
  fd_cut_down := _
  F_cut_down := fun_mk (st := s_cut_down) l_cut_down c_cut_down k_cut_down
  g_cut_down := W.mg_of X G p_cut_down
  b_cut_down := (fun_mk (st := s_cut_down) l_cut_down c_cut_down k_cut_down).binds (ps := ["graph", "cores", "schedule"]) fun _ _ _ _ _ _ us hl => match us, hl with | [_, _, _], _ => rfl
  kb_cut_down := fun s us _ hl => match us, hl with | [_, _, _], _ => .of_eq rfl
  f__law_whole := a__law_whole
  fd__law_whole := _
  F__law_whole := fun_mk (st := s__law_whole) l__law_whole c__law_whole k__law_whole
  g__law_whole := W.mg_of X G p__law_whole
  b__law_whole := (fun_mk (st := s__law_whole) l__law_whole c__law_whole k__law_whole).binds (ps := ["value"]) fun _ _ _ _ _ _ us hl => match us, hl with | [_], _ => rfl
  kb__law_whole := fun s us _ hl => match us, hl with | [_], _ => .of_eq rfl
  f__law_cell := a__law_cell
  fd__law_cell := _
  F__law_cell := fun_mk (st := s__law_cell) l__law_cell c__law_cell k__law_cell
  g__law_cell := W.mg_of X G p__law_cell
  b__law_cell := (fun_mk (st := s__law_cell) l__law_cell c__law_cell k__law_cell).binds (ps := ["script", "k"]) fun _ _ _ _ _ _ us hl => match us, hl with | [_, _], _ => rfl
  kb__law_cell := fun s us _ hl => match us, hl with | [_, _], _ => .of_eq rfl
  f__law_draws := a__law_draws
  fd__law_draws := _
  F__law_draws := fun_mk (st := s__law_draws) l__law_draws c__law_draws k__law_draws
  g__law_draws := W.mg_of X G p__law_draws
  b__law_draws := (fun_mk (st := s__law_draws) l__law_draws c__law_draws k__law_draws).binds (ps := ["cell", "limits"]) fun _ _ _ _ _ _ us hl => match us, hl with | [_, _], _ => rfl
  kb__law_draws := fun s us _ hl => match us, hl with | [_, _], _ => .of_eq rfl
  f__law_graph := a__law_graph
  fd__law_graph := _
  F__law_graph := fun_mk (st := s__law_graph) l__law_graph c__law_graph k__law_graph
  g__law_graph := W.mg_of X G p__law_graph
  b__law_graph := (fun_mk (st := s__law_graph) l__law_graph c__law_graph k__law_graph).binds (ps := ["script", "start", "most"]) fun _ _ _ _ _ _ us hl => match us, hl with | [_, _, _], _ => rfl
  kb__law_graph := fun s us _ hl => match us, hl with | [_, _, _], _ => .of_eq rfl
  f__law_free := a__law_free
  fd__law_free := _
  F__law_free := fun_mk (st := s__law_free) l__law_free c__law_free k__law_free
  g__law_free := W.mg_of X G p__law_free
  b__law_free := (fun_mk (st := s__law_free) l__law_free c__law_free k__law_free).binds (ps := ["graph", "done"]) fun _ _ _ _ _ _ us hl => match us, hl with | [_, _], _ => rfl
  kb__law_free := fun s us _ hl => match us, hl with | [_, _], _ => .of_eq rfl
  f__law_listed := a__law_listed
  fd__law_listed := _
  F__law_listed := fun_mk (st := s__law_listed) l__law_listed c__law_listed k__law_listed
  g__law_listed := W.mg_of X G p__law_listed
  b__law_listed := (fun_mk (st := s__law_listed) l__law_listed c__law_listed k__law_listed).binds (ps := ["graph", "cores", "order"]) fun _ _ _ _ _ _ us hl => match us, hl with | [_, _, _], _ => rfl
  kb__law_listed := fun s us _ hl => match us, hl with | [_, _, _], _ => .of_eq rfl
  f__law_drawn := a__law_drawn
  fd__law_drawn := _
  F__law_drawn := fun_mk (st := s__law_drawn) l__law_drawn c__law_drawn k__law_drawn
  g__law_drawn := W.mg_of X G p__law_drawn
  b__law_drawn := (fun_mk (st := s__law_drawn) l__law_drawn c__law_drawn k__law_drawn).binds (ps := ["graph", "cores", "cell", "is_full"]) fun _ _ _ _ _ _ us hl => match us, hl with | [_, _, _, _], _ => rfl
  kb__law_drawn := fun s us _ hl => match us, hl with | [_, _, _, _], _ => .of_eq rfl
  f__law_is_schedule := a__law_is_schedule
  fd__law_is_schedule := _
  F__law_is_schedule := fun_mk (st := s__law_is_schedule) l__law_is_schedule c__law_is_schedule k__law_is_schedule
  g__law_is_schedule := W.mg_of X G p__law_is_schedule
  b__law_is_schedule := (fun_mk (st := s__law_is_schedule) l__law_is_schedule c__law_is_schedule k__law_is_schedule).binds (ps := ["graph", "cores", "value"]) fun _ _ _ _ _ _ us hl => match us, hl with | [_, _, _], _ => rfl
  kb__law_is_schedule := fun s us _ hl => match us, hl with | [_, _, _], _ => .of_eq rfl
  f__law_is_greedy := a__law_is_greedy
  fd__law_is_greedy := _
  F__law_is_greedy := fun_mk (st := s__law_is_greedy) l__law_is_greedy c__law_is_greedy k__law_is_greedy
  g__law_is_greedy := W.mg_of X G p__law_is_greedy
  b__law_is_greedy := (fun_mk (st := s__law_is_greedy) l__law_is_greedy c__law_is_greedy k__law_is_greedy).binds (ps := ["graph", "cores", "schedule"]) fun _ _ _ _ _ _ us hl => match us, hl with | [_, _, _], _ => rfl
  kb__law_is_greedy := fun s us _ hl => match us, hl with | [_, _, _], _ => .of_eq rfl
  f_law := a_law
  fd_law := _
  F_law := fun_mk (st := s_law) l_law c_law k_law
  g_law := W.mg_of X G p_law
  b_law := (fun_mk (st := s_law) l_law c_law k_law).binds (ps := ["script"]) fun _ _ _ _ _ _ us hl => match us, hl with | [_], _ => rfl
  kb_law := fun s us _ hl => match us, hl with | [_], _ => .of_eq rfl
  n_abs := W.mg_none_of X G z_abs
  n_all := W.mg_none_of X G z_all
  n_bool := W.mg_none_of X G z_bool
  n_enumerate := W.mg_none_of X G z_enumerate
  n_int := W.mg_none_of X G z_int
  n_isinstance := W.mg_none_of X G z_isinstance
  n_len := W.mg_none_of X G z_len
  n_list := W.mg_none_of X G z_list
  n_max := W.mg_none_of X G z_max
  n_min := W.mg_none_of X G z_min
  n_range := W.mg_none_of X G z_range
  n_repr := W.mg_none_of X G z_repr
  n_set := W.mg_none_of X G z_set
  n_sorted := W.mg_none_of X G z_sorted
  n_tuple := W.mg_none_of X G z_tuple
  C_InvalidGraph := C_InvalidGraph
  fI_InvalidGraph := I_InvalidGraph
  fdI_InvalidGraph := _
  g_InvalidGraph := W.mg_of X G pC_InvalidGraph
  O_InvalidGraph := ⟨⟨_, _, _, _, _, _, _, _, _, _, _, _, _, _, _, xC_InvalidGraph, vC_InvalidGraph⟩, sa_InvalidGraph, eC_InvalidGraph, tC_InvalidGraph, kC_InvalidGraph⟩
  X_InvalidGraph := ⟨ga_InvalidGraph, gg_InvalidGraph, eC_InvalidGraph, hC_InvalidGraph⟩
  iC_InvalidGraph := iC_InvalidGraph
  tI_InvalidGraph := tI_InvalidGraph
  FI_InvalidGraph := fun_mk (st := s_InvalidGraph_init) lI_InvalidGraph cI_InvalidGraph kI_InvalidGraph
  em_InvalidGraph := exm_eq eC_InvalidGraph jC_InvalidGraph tC_InvalidGraph sC_InvalidGraph
  bI_InvalidGraph := (fun_mk (st := s_InvalidGraph_init) lI_InvalidGraph cI_InvalidGraph kI_InvalidGraph).binds (ps := ["self", "value"]) fun _ _ _ _ _ _ us hl => match us, hl with | [_, _], _ => rfl
  no_InvalidGraph_value := nf_InvalidGraph_value
theorem all_mk {l : W.OpenLaw} {w : World} {K : Kf} {h : Heap} {mg : Str → Option Value} {fa : Addr} (math : ∀ ns : List Int, ns.length ≤ 63 → ∃ en, F_law [scrD ns] = .ok (.d (.bool true)) en) (X : K.In h) (G : h.Ns mainGlobals mg) (hfa : mg "law" = some (.ref fa))
    {a_is_integer : Addr} {od_is_integer an_is_integer : Option Addr} {sl_is_integer : Array (Option Value)} {oc_is_integer kV_is_integer dc_is_integer pm_is_integer cd_is_integer ct_is_integer : Value}
    {a_is_row : Addr} {od_is_row an_is_row : Option Addr} {sl_is_row : Array (Option Value)} {oc_is_row kV_is_row dc_is_row pm_is_row cd_is_row ct_is_row : Value}
    {a_is_graph : Addr} {od_is_graph an_is_graph : Option Addr} {sl_is_graph : Array (Option Value)} {oc_is_graph kV_is_graph dc_is_graph pm_is_graph cd_is_graph ct_is_graph : Value}
    {a_check_graph : Addr} {od_check_graph an_check_graph : Option Addr} {sl_check_graph : Array (Option Value)} {oc_check_graph kV_check_graph dc_check_graph pm_check_graph cd_check_graph ct_check_graph : Value}
    {a_nodes_of : Addr} {od_nodes_of an_nodes_of : Option Addr} {sl_nodes_of : Array (Option Value)} {oc_nodes_of kV_nodes_of dc_nodes_of pm_nodes_of cd_nodes_of ct_nodes_of : Value}
    {a_is_schedule : Addr} {od_is_schedule an_is_schedule : Option Addr} {sl_is_schedule : Array (Option Value)} {oc_is_schedule kV_is_schedule dc_is_schedule pm_is_schedule cd_is_schedule ct_is_schedule : Value}
    {a_is_free : Addr} {od_is_free an_is_free : Option Addr} {sl_is_free : Array (Option Value)} {oc_is_free kV_is_free dc_is_free pm_is_free cd_is_free ct_is_free : Value}
    {a_free_nodes : Addr} {od_free_nodes an_free_nodes : Option Addr} {sl_free_nodes : Array (Option Value)} {oc_free_nodes kV_free_nodes dc_free_nodes pm_free_nodes cd_free_nodes ct_free_nodes : Value}
    {a_is_greedy : Addr} {od_is_greedy an_is_greedy : Option Addr} {sl_is_greedy : Array (Option Value)} {oc_is_greedy kV_is_greedy dc_is_greedy pm_is_greedy cd_is_greedy ct_is_greedy : Value}
    {a_listed : Addr} {od_listed an_listed : Option Addr} {sl_listed : Array (Option Value)} {oc_listed kV_listed dc_listed pm_listed cd_listed ct_listed : Value}
    {a_cut_down : Addr} {od_cut_down an_cut_down : Option Addr} {sl_cut_down : Array (Option Value)} {oc_cut_down kV_cut_down dc_cut_down pm_cut_down cd_cut_down ct_cut_down : Value}
    {a__law_whole : Addr} {od__law_whole an__law_whole : Option Addr} {sl__law_whole : Array (Option Value)} {oc__law_whole kV__law_whole dc__law_whole pm__law_whole cd__law_whole ct__law_whole : Value}
    {a__law_cell : Addr} {od__law_cell an__law_cell : Option Addr} {sl__law_cell : Array (Option Value)} {oc__law_cell kV__law_cell dc__law_cell pm__law_cell cd__law_cell ct__law_cell : Value}
    {a__law_draws : Addr} {od__law_draws an__law_draws : Option Addr} {sl__law_draws : Array (Option Value)} {oc__law_draws kV__law_draws dc__law_draws pm__law_draws cd__law_draws ct__law_draws : Value}
    {a__law_graph : Addr} {od__law_graph an__law_graph : Option Addr} {sl__law_graph : Array (Option Value)} {oc__law_graph kV__law_graph dc__law_graph pm__law_graph cd__law_graph ct__law_graph : Value}
    {a__law_free : Addr} {od__law_free an__law_free : Option Addr} {sl__law_free : Array (Option Value)} {oc__law_free kV__law_free dc__law_free pm__law_free cd__law_free ct__law_free : Value}
    {a__law_listed : Addr} {od__law_listed an__law_listed : Option Addr} {sl__law_listed : Array (Option Value)} {oc__law_listed kV__law_listed dc__law_listed pm__law_listed cd__law_listed ct__law_listed : Value}
    {a__law_drawn : Addr} {od__law_drawn an__law_drawn : Option Addr} {sl__law_drawn : Array (Option Value)} {oc__law_drawn kV__law_drawn dc__law_drawn pm__law_drawn cd__law_drawn ct__law_drawn : Value}
    {a__law_is_schedule : Addr} {od__law_is_schedule an__law_is_schedule : Option Addr} {sl__law_is_schedule : Array (Option Value)} {oc__law_is_schedule kV__law_is_schedule dc__law_is_schedule pm__law_is_schedule cd__law_is_schedule ct__law_is_schedule : Value}
    {a__law_is_greedy : Addr} {od__law_is_greedy an__law_is_greedy : Option Addr} {sl__law_is_greedy : Array (Option Value)} {oc__law_is_greedy kV__law_is_greedy dc__law_is_greedy pm__law_is_greedy cd__law_is_greedy ct__law_is_greedy : Value}
    {a_law : Addr} {od_law an_law : Option Addr} {sl_law : Array (Option Value)} {oc_law kV_law dc_law pm_law cd_law ct_law : Value}
    {C_InvalidGraph I_InvalidGraph : Addr} {nm_InvalidGraph q_InvalidGraph : Str} {N_InvalidGraph : Addr} {bs_InvalidGraph bm_InvalidGraph : List Value} {sn_InvalidGraph : List Str} {su_InvalidGraph : List Value} {ab_InvalidGraph : Bool} {co_InvalidGraph : Option Bool} {dd_InvalidGraph : Option Addr} {m0_InvalidGraph m1_InvalidGraph m2_InvalidGraph m3_InvalidGraph m5_InvalidGraph : Option Value} {od_InvalidGraph an_InvalidGraph : Option Addr} {sl_InvalidGraph : Array (Option Value)} {oc_InvalidGraph kV_InvalidGraph dc_InvalidGraph pm_InvalidGraph cd_InvalidGraph ct_InvalidGraph : Value}
    (p_is_integer : W.nsIn K mainGlobals "is_integer" = some (some (.ref a_is_integer)))
    (l_is_integer : K.lookup a_is_integer = some ⟨oc_is_integer, od_is_integer, .func (W.fnOf "is_integer" "is_integer" (defArgs s_is_integer) (defBody s_is_integer) (defScope s_is_integer) .none kV_is_integer dc_is_integer pm_is_integer an_is_integer cd_is_integer ct_is_integer), sl_is_integer⟩)
    (c_is_integer : W.codeIn K cd_is_integer "is_integer" = true)
    (k_is_integer : W.keepIn K (.ref a_is_integer) = true)
    (p_is_row : W.nsIn K mainGlobals "is_row" = some (some (.ref a_is_row)))
    (l_is_row : K.lookup a_is_row = some ⟨oc_is_row, od_is_row, .func (W.fnOf "is_row" "is_row" (defArgs s_is_row) (defBody s_is_row) (defScope s_is_row) .none kV_is_row dc_is_row pm_is_row an_is_row cd_is_row ct_is_row), sl_is_row⟩)
    (c_is_row : W.codeIn K cd_is_row "is_row" = true)
    (k_is_row : W.keepIn K (.ref a_is_row) = true)
    (p_is_graph : W.nsIn K mainGlobals "is_graph" = some (some (.ref a_is_graph)))
    (l_is_graph : K.lookup a_is_graph = some ⟨oc_is_graph, od_is_graph, .func (W.fnOf "is_graph" "is_graph" (defArgs s_is_graph) (defBody s_is_graph) (defScope s_is_graph) .none kV_is_graph dc_is_graph pm_is_graph an_is_graph cd_is_graph ct_is_graph), sl_is_graph⟩)
    (c_is_graph : W.codeIn K cd_is_graph "is_graph" = true)
    (k_is_graph : W.keepIn K (.ref a_is_graph) = true)
    (p_check_graph : W.nsIn K mainGlobals "check_graph" = some (some (.ref a_check_graph)))
    (l_check_graph : K.lookup a_check_graph = some ⟨oc_check_graph, od_check_graph, .func (W.fnOf "check_graph" "check_graph" (defArgs s_check_graph) (defBody s_check_graph) (defScope s_check_graph) .none kV_check_graph dc_check_graph pm_check_graph an_check_graph cd_check_graph ct_check_graph), sl_check_graph⟩)
    (c_check_graph : W.codeIn K cd_check_graph "check_graph" = true)
    (k_check_graph : W.keepIn K (.ref a_check_graph) = true)
    (p_nodes_of : W.nsIn K mainGlobals "nodes_of" = some (some (.ref a_nodes_of)))
    (l_nodes_of : K.lookup a_nodes_of = some ⟨oc_nodes_of, od_nodes_of, .func (W.fnOf "nodes_of" "nodes_of" (defArgs s_nodes_of) (defBody s_nodes_of) (defScope s_nodes_of) .none kV_nodes_of dc_nodes_of pm_nodes_of an_nodes_of cd_nodes_of ct_nodes_of), sl_nodes_of⟩)
    (c_nodes_of : W.codeIn K cd_nodes_of "nodes_of" = true)
    (k_nodes_of : W.keepIn K (.ref a_nodes_of) = true)
    (p_is_schedule : W.nsIn K mainGlobals "is_schedule" = some (some (.ref a_is_schedule)))
    (l_is_schedule : K.lookup a_is_schedule = some ⟨oc_is_schedule, od_is_schedule, .func (W.fnOf "is_schedule" "is_schedule" (defArgs s_is_schedule) (defBody s_is_schedule) (defScope s_is_schedule) .none kV_is_schedule dc_is_schedule pm_is_schedule an_is_schedule cd_is_schedule ct_is_schedule), sl_is_schedule⟩)
    (c_is_schedule : W.codeIn K cd_is_schedule "is_schedule" = true)
    (k_is_schedule : W.keepIn K (.ref a_is_schedule) = true)
    (p_is_free : W.nsIn K mainGlobals "is_free" = some (some (.ref a_is_free)))
    (l_is_free : K.lookup a_is_free = some ⟨oc_is_free, od_is_free, .func (W.fnOf "is_free" "is_free" (defArgs s_is_free) (defBody s_is_free) (defScope s_is_free) .none kV_is_free dc_is_free pm_is_free an_is_free cd_is_free ct_is_free), sl_is_free⟩)
    (c_is_free : W.codeIn K cd_is_free "is_free" = true)
    (k_is_free : W.keepIn K (.ref a_is_free) = true)
    (p_free_nodes : W.nsIn K mainGlobals "free_nodes" = some (some (.ref a_free_nodes)))
    (l_free_nodes : K.lookup a_free_nodes = some ⟨oc_free_nodes, od_free_nodes, .func (W.fnOf "free_nodes" "free_nodes" (defArgs s_free_nodes) (defBody s_free_nodes) (defScope s_free_nodes) .none kV_free_nodes dc_free_nodes pm_free_nodes an_free_nodes cd_free_nodes ct_free_nodes), sl_free_nodes⟩)
    (c_free_nodes : W.codeIn K cd_free_nodes "free_nodes" = true)
    (k_free_nodes : W.keepIn K (.ref a_free_nodes) = true)
    (p_is_greedy : W.nsIn K mainGlobals "is_greedy" = some (some (.ref a_is_greedy)))
    (l_is_greedy : K.lookup a_is_greedy = some ⟨oc_is_greedy, od_is_greedy, .func (W.fnOf "is_greedy" "is_greedy" (defArgs s_is_greedy) (defBody s_is_greedy) (defScope s_is_greedy) .none kV_is_greedy dc_is_greedy pm_is_greedy an_is_greedy cd_is_greedy ct_is_greedy), sl_is_greedy⟩)
    (c_is_greedy : W.codeIn K cd_is_greedy "is_greedy" = true)
    (k_is_greedy : W.keepIn K (.ref a_is_greedy) = true)
    (p_listed : W.nsIn K mainGlobals "listed" = some (some (.ref a_listed)))
    (l_listed : K.lookup a_listed = some ⟨oc_listed, od_listed, .func (W.fnOf "listed" "listed" (defArgs s_listed) (defBody s_listed) (defScope s_listed) .none kV_listed dc_listed pm_listed an_listed cd_listed ct_listed), sl_listed⟩)
    (c_listed : W.codeIn K cd_listed "listed" = true)
    (k_listed : W.keepIn K (.ref a_listed) = true)
    (p_cut_down : W.nsIn K mainGlobals "cut_down" = some (some (.ref a_cut_down)))
    (l_cut_down : K.lookup a_cut_down = some ⟨oc_cut_down, od_cut_down, .func (W.fnOf "cut_down" "cut_down" (defArgs s_cut_down) (defBody s_cut_down) (defScope s_cut_down) .none kV_cut_down dc_cut_down pm_cut_down an_cut_down cd_cut_down ct_cut_down), sl_cut_down⟩)
    (c_cut_down : W.codeIn K cd_cut_down "cut_down" = true)
    (k_cut_down : W.keepIn K (.ref a_cut_down) = true)
    (p__law_whole : W.nsIn K mainGlobals "_law_whole" = some (some (.ref a__law_whole)))
    (l__law_whole : K.lookup a__law_whole = some ⟨oc__law_whole, od__law_whole, .func (W.fnOf "_law_whole" "_law_whole" (defArgs s__law_whole) (defBody s__law_whole) (defScope s__law_whole) .none kV__law_whole dc__law_whole pm__law_whole an__law_whole cd__law_whole ct__law_whole), sl__law_whole⟩)
    (c__law_whole : W.codeIn K cd__law_whole "_law_whole" = true)
    (k__law_whole : W.keepIn K (.ref a__law_whole) = true)
    (p__law_cell : W.nsIn K mainGlobals "_law_cell" = some (some (.ref a__law_cell)))
    (l__law_cell : K.lookup a__law_cell = some ⟨oc__law_cell, od__law_cell, .func (W.fnOf "_law_cell" "_law_cell" (defArgs s__law_cell) (defBody s__law_cell) (defScope s__law_cell) .none kV__law_cell dc__law_cell pm__law_cell an__law_cell cd__law_cell ct__law_cell), sl__law_cell⟩)
    (c__law_cell : W.codeIn K cd__law_cell "_law_cell" = true)
    (k__law_cell : W.keepIn K (.ref a__law_cell) = true)
    (p__law_draws : W.nsIn K mainGlobals "_law_draws" = some (some (.ref a__law_draws)))
    (l__law_draws : K.lookup a__law_draws = some ⟨oc__law_draws, od__law_draws, .func (W.fnOf "_law_draws" "_law_draws" (defArgs s__law_draws) (defBody s__law_draws) (defScope s__law_draws) .none kV__law_draws dc__law_draws pm__law_draws an__law_draws cd__law_draws ct__law_draws), sl__law_draws⟩)
    (c__law_draws : W.codeIn K cd__law_draws "_law_draws" = true)
    (k__law_draws : W.keepIn K (.ref a__law_draws) = true)
    (p__law_graph : W.nsIn K mainGlobals "_law_graph" = some (some (.ref a__law_graph)))
    (l__law_graph : K.lookup a__law_graph = some ⟨oc__law_graph, od__law_graph, .func (W.fnOf "_law_graph" "_law_graph" (defArgs s__law_graph) (defBody s__law_graph) (defScope s__law_graph) .none kV__law_graph dc__law_graph pm__law_graph an__law_graph cd__law_graph ct__law_graph), sl__law_graph⟩)
    (c__law_graph : W.codeIn K cd__law_graph "_law_graph" = true)
    (k__law_graph : W.keepIn K (.ref a__law_graph) = true)
    (p__law_free : W.nsIn K mainGlobals "_law_free" = some (some (.ref a__law_free)))
    (l__law_free : K.lookup a__law_free = some ⟨oc__law_free, od__law_free, .func (W.fnOf "_law_free" "_law_free" (defArgs s__law_free) (defBody s__law_free) (defScope s__law_free) .none kV__law_free dc__law_free pm__law_free an__law_free cd__law_free ct__law_free), sl__law_free⟩)
    (c__law_free : W.codeIn K cd__law_free "_law_free" = true)
    (k__law_free : W.keepIn K (.ref a__law_free) = true)
    (p__law_listed : W.nsIn K mainGlobals "_law_listed" = some (some (.ref a__law_listed)))
    (l__law_listed : K.lookup a__law_listed = some ⟨oc__law_listed, od__law_listed, .func (W.fnOf "_law_listed" "_law_listed" (defArgs s__law_listed) (defBody s__law_listed) (defScope s__law_listed) .none kV__law_listed dc__law_listed pm__law_listed an__law_listed cd__law_listed ct__law_listed), sl__law_listed⟩)
    (c__law_listed : W.codeIn K cd__law_listed "_law_listed" = true)
    (k__law_listed : W.keepIn K (.ref a__law_listed) = true)
    (p__law_drawn : W.nsIn K mainGlobals "_law_drawn" = some (some (.ref a__law_drawn)))
    (l__law_drawn : K.lookup a__law_drawn = some ⟨oc__law_drawn, od__law_drawn, .func (W.fnOf "_law_drawn" "_law_drawn" (defArgs s__law_drawn) (defBody s__law_drawn) (defScope s__law_drawn) .none kV__law_drawn dc__law_drawn pm__law_drawn an__law_drawn cd__law_drawn ct__law_drawn), sl__law_drawn⟩)
    (c__law_drawn : W.codeIn K cd__law_drawn "_law_drawn" = true)
    (k__law_drawn : W.keepIn K (.ref a__law_drawn) = true)
    (p__law_is_schedule : W.nsIn K mainGlobals "_law_is_schedule" = some (some (.ref a__law_is_schedule)))
    (l__law_is_schedule : K.lookup a__law_is_schedule = some ⟨oc__law_is_schedule, od__law_is_schedule, .func (W.fnOf "_law_is_schedule" "_law_is_schedule" (defArgs s__law_is_schedule) (defBody s__law_is_schedule) (defScope s__law_is_schedule) .none kV__law_is_schedule dc__law_is_schedule pm__law_is_schedule an__law_is_schedule cd__law_is_schedule ct__law_is_schedule), sl__law_is_schedule⟩)
    (c__law_is_schedule : W.codeIn K cd__law_is_schedule "_law_is_schedule" = true)
    (k__law_is_schedule : W.keepIn K (.ref a__law_is_schedule) = true)
    (p__law_is_greedy : W.nsIn K mainGlobals "_law_is_greedy" = some (some (.ref a__law_is_greedy)))
    (l__law_is_greedy : K.lookup a__law_is_greedy = some ⟨oc__law_is_greedy, od__law_is_greedy, .func (W.fnOf "_law_is_greedy" "_law_is_greedy" (defArgs s__law_is_greedy) (defBody s__law_is_greedy) (defScope s__law_is_greedy) .none kV__law_is_greedy dc__law_is_greedy pm__law_is_greedy an__law_is_greedy cd__law_is_greedy ct__law_is_greedy), sl__law_is_greedy⟩)
    (c__law_is_greedy : W.codeIn K cd__law_is_greedy "_law_is_greedy" = true)
    (k__law_is_greedy : W.keepIn K (.ref a__law_is_greedy) = true)
    (p_law : W.nsIn K mainGlobals "law" = some (some (.ref a_law)))
    (l_law : K.lookup a_law = some ⟨oc_law, od_law, .func (W.fnOf "law" "law" (defArgs s_law) (defBody s_law) (defScope s_law) .none kV_law dc_law pm_law an_law cd_law ct_law), sl_law⟩)
    (c_law : W.codeIn K cd_law "law" = true)
    (k_law : W.keepIn K (.ref a_law) = true)
    (z_abs : W.nsIn K mainGlobals "abs" = some none)
    (z_all : W.nsIn K mainGlobals "all" = some none)
    (z_bool : W.nsIn K mainGlobals "bool" = some none)
    (z_enumerate : W.nsIn K mainGlobals "enumerate" = some none)
    (z_int : W.nsIn K mainGlobals "int" = some none)
    (z_isinstance : W.nsIn K mainGlobals "isinstance" = some none)
    (z_len : W.nsIn K mainGlobals "len" = some none)
    (z_list : W.nsIn K mainGlobals "list" = some none)
    (z_max : W.nsIn K mainGlobals "max" = some none)
    (z_min : W.nsIn K mainGlobals "min" = some none)
    (z_range : W.nsIn K mainGlobals "range" = some none)
    (z_repr : W.nsIn K mainGlobals "repr" = some none)
    (z_set : W.nsIn K mainGlobals "set" = some none)
    (z_sorted : W.nsIn K mainGlobals "sorted" = some none)
    (z_tuple : W.nsIn K mainGlobals "tuple" = some none)
    (pC_InvalidGraph : W.nsIn K mainGlobals "InvalidGraph" = some (some (.ref C_InvalidGraph)))
    (xC_InvalidGraph : K.lookup C_InvalidGraph = some (excClassObj nm_InvalidGraph q_InvalidGraph C_InvalidGraph N_InvalidGraph bs_InvalidGraph bm_InvalidGraph true sn_InvalidGraph su_InvalidGraph ab_InvalidGraph co_InvalidGraph dd_InvalidGraph m0_InvalidGraph m1_InvalidGraph m2_InvalidGraph m3_InvalidGraph m5_InvalidGraph "ValueError.__new__"))
    (vC_InvalidGraph : HandSPX.refsVE bm_InvalidGraph = true)
    (sa_InvalidGraph : W.findIn K (.ref C_InvalidGraph) "__setattr__" = some (some (.builtin "object.__setattr__")))
    (ga_InvalidGraph : W.findIn K (.ref C_InvalidGraph) "__getattribute__" = some (some (.builtin "BaseException.__getattribute__")))
    (gg_InvalidGraph : W.findIn K (.ref C_InvalidGraph) "__getattr__" = some none)
    (nf_InvalidGraph_value : W.findIn K (.ref C_InvalidGraph) "value" = some none)
    (iC_InvalidGraph : W.findIn K (.ref C_InvalidGraph) "__init__" = some (some (.ref I_InvalidGraph)))
    (tI_InvalidGraph : W.typeIn K (.ref I_InvalidGraph) = some (.type "function"))
    (lI_InvalidGraph : K.lookup I_InvalidGraph = some ⟨oc_InvalidGraph, od_InvalidGraph, .func (W.fnOf "__init__" "InvalidGraph.__init__" (defArgs s_InvalidGraph_init) (defBody s_InvalidGraph_init) (defScope s_InvalidGraph_init) .none kV_InvalidGraph dc_InvalidGraph pm_InvalidGraph an_InvalidGraph cd_InvalidGraph ct_InvalidGraph), sl_InvalidGraph⟩)
    (cI_InvalidGraph : W.codeIn K cd_InvalidGraph "InvalidGraph.__init__" = true)
    (kI_InvalidGraph : W.keepIn K (.ref I_InvalidGraph) = true)
    (kC_InvalidGraph : W.keepIn K (.ref C_InvalidGraph) = true)
    (eC_InvalidGraph : W.subIn K (.ref C_InvalidGraph) (.type "BaseException") = some true)
    (tC_InvalidGraph : W.typeIn K (.ref C_InvalidGraph) = some (.type "type"))
    (hC_InvalidGraph : W.hasDictIn K C_InvalidGraph = true)
    (jC_InvalidGraph : W.isClsIn K C_InvalidGraph = true)
    (sC_InvalidGraph : W.subIn K (.ref C_InvalidGraph) (.ref C_InvalidGraph) = some true) :
    ∃ fd : FuncData, (∀ (s : Shared) (u : Value), BindsTo s fd ⟨[u], []⟩ [("script", u)]) ∧ ∀ base : Heap, K.In base → base.Ns mainGlobals mg → FnAt callerA l.prog w K mg base (L2N.CX l.prog w) fa fd ["script"] (spLaw K) := by
  have e := hfa.symm.trans (W.mg_of X G p_law)
  cases e
  exact ⟨_, fun s v => .of_eq rfl, fun base _ _ => fn_lawG rfl (okG_law (mkTop X G p_is_integer l_is_integer c_is_integer k_is_integer p_is_row l_is_row c_is_row k_is_row p_is_graph l_is_graph c_is_graph k_is_graph p_check_graph l_check_graph c_check_graph k_check_graph p_nodes_of l_nodes_of c_nodes_of k_nodes_of p_is_schedule l_is_schedule c_is_schedule k_is_schedule p_is_free l_is_free c_is_free k_is_free p_free_nodes l_free_nodes c_free_nodes k_free_nodes p_is_greedy l_is_greedy c_is_greedy k_is_greedy p_listed l_listed c_listed k_listed p_cut_down l_cut_down c_cut_down k_cut_down p__law_whole l__law_whole c__law_whole k__law_whole p__law_cell l__law_cell c__law_cell k__law_cell p__law_draws l__law_draws c__law_draws k__law_draws p__law_graph l__law_graph c__law_graph k__law_graph p__law_free l__law_free c__law_free k__law_free p__law_listed l__law_listed c__law_listed k__law_listed p__law_drawn l__law_drawn c__law_drawn k__law_drawn p__law_is_schedule l__law_is_schedule c__law_is_schedule k__law_is_schedule p__law_is_greedy l__law_is_greedy c__law_is_greedy k__law_is_greedy p_law l_law c_law k_law z_abs z_all z_bool z_enumerate z_int z_isinstance z_len z_list z_max z_min z_range z_repr z_set z_sorted z_tuple pC_InvalidGraph xC_InvalidGraph vC_InvalidGraph sa_InvalidGraph ga_InvalidGraph gg_InvalidGraph nf_InvalidGraph_value iC_InvalidGraph tI_InvalidGraph lI_InvalidGraph cI_InvalidGraph kI_InvalidGraph kC_InvalidGraph eC_InvalidGraph tC_InvalidGraph hC_InvalidGraph jC_InvalidGraph sC_InvalidGraph)) math⟩
end K22

namespace KG
open PySem PySem.Spec PyProof.Rows L2
/-! ### schedules; a listed one is greedy, and never longer than the one whose order it takes -/
/-- steps that may follow where pre is done -/
def Sch (g : Gr) (c : Nat) : List Int → List (List Int) → Prop
  | _, [] => True
  | pre, st :: post => st.length ≤ c ∧ st.Pairwise (· < ·) ∧ (∀ k ∈ st, 0 ≤ k ∧ k < (g.length : Int)) ∧ (∀ k ∈ st, k ∉ pre) ∧ (∀ k ∈ st, ∀ p ∈ rowOf g k, p ∈ pre) ∧ Sch g c (pre ++ st) post
theorem sch_congr {g : Gr} {c : Nat} : ∀ (s : List (List Int)) {a b : List Int}, (∀ k, k ∈ a ↔ k ∈ b) → Sch g c a s → Sch g c b s
  | [], _, _, _, _ => trivial
  | st :: s, a, b, h, ⟨h1, h2, h3, h4, h5, h6⟩ => ⟨h1, h2, h3, fun k m z => h4 k m ((h k).mpr z), fun k m p mp => (h p).mp (h5 k m p mp), sch_congr s (fun k => by rw [List.mem_append, List.mem_append, h k]) h6⟩
theorem sch_nodup {g : Gr} {c : Nat} : ∀ (s : List (List Int)) (pre : List Int), Sch g c pre s → pre.Nodup → (pre ++ s.flatten).Nodup
  | [], pre, _, nd => by simpa using nd
  | st :: s, pre, ⟨h1, h2, h3, h4, h5, h6⟩, nd => by
    have := sch_nodup s (pre ++ st) h6 (by
      rw [List.nodup_append]
      exact ⟨nd, h2.imp fun h => by omega, fun a ma b mb e => h4 b mb (e ▸ ma)⟩)
    rw [List.flatten_cons, ← List.append_assoc]
    exact this
theorem sch_range {g : Gr} {c : Nat} : ∀ (s : List (List Int)) (pre : List Int), Sch g c pre s → ∀ k ∈ s.flatten, 0 ≤ k ∧ k < (g.length : Int)
  | [], _, _, k, m => by simp at m
  | st :: s, pre, ⟨h1, h2, h3, h4, h5, h6⟩, k, m => by
    rw [List.flatten_cons, List.mem_append] at m
    rcases m with m | m
    · exact h3 k m
    · exact sch_range s _ h6 k m
theorem longer {g : Gr} {c : Nat} : ∀ (post : List (List Int)) (pre done : List Int) (m : Nat), (∀ x ∈ pre, x ∈ done) → Sch g c pre post → (pk g c m done ((pre ++ post.flatten).filter fun k => !decide (k ∈ done))).length ≤ post.length
  | [], pre, done, m, h, _ => by
    have e : (pre ++ ([] : List (List Int)).flatten).filter (fun k => !decide (k ∈ done)) = [] := by
      rw [List.filter_eq_nil_iff]
      intro k mk
      simp only [List.flatten_nil, List.append_nil] at mk
      simp [h k mk]
    rw [e]
    cases m with
    | zero => exact Nat.le_refl _
    | succ m => rw [pk, if_pos rfl]; exact Nat.le_refl _
  | st :: post, pre, done, 0, h, S => Nat.zero_le _
  | st :: post, pre, done, m + 1, h, ⟨h1, h2, h3, h4, h5, h6⟩ => by
    rw [pk]
    by_cases e : ((pre ++ (st :: post).flatten).filter fun k => !decide (k ∈ done)) = []
    · rw [if_pos e]; exact Nat.zero_le _
    · rw [if_neg e, List.length_cons, List.length_cons, left_next]
      have key : ∀ x ∈ pre ++ st, x ∈ done ++ pkStep g c done ((pre ++ (st :: post).flatten).filter fun k => !decide (k ∈ done)) := fun x mx => by
        by_cases xd : x ∈ done
        · exact List.mem_append_left _ xd
        · rcases List.mem_append.mp mx with mx | mx
          · exact absurd (h x mx) xd
          · refine List.mem_append_right _ ?_
            unfold pkStep
            have e1 : pre.filter (fun k => !decide (k ∈ done)) = [] := by
              rw [List.filter_eq_nil_iff]
              intro k mk
              simp [h k mk]
            rw [List.flatten_cons, List.filter_append, e1, List.nil_append, List.filter_append, List.filter_append]
            have e2 : (st.filter fun k => !decide (k ∈ done)).filter (isFr g done) = st.filter fun k => !decide (k ∈ done) := List.filter_eq_self.mpr fun k mk => isFr_iff.mpr fun p mp => h p (h5 k (List.mem_filter.mp mk).1 p mp)
            rw [e2, List.take_append]
            refine List.mem_append_left _ ?_
            rw [List.take_of_length_le (Nat.le_trans (List.length_filter_le _ _) h1)]
            exact List.mem_filter.mpr ⟨mx, by simp [xd]⟩
      have := longer post (pre ++ st) (done ++ pkStep g c done ((pre ++ (st :: post).flatten).filter fun k => !decide (k ∈ done))) m key h6
      rw [List.append_assoc, show st ++ post.flatten = (st :: post).flatten from rfl] at this
      omega
/-- what is listed is a schedule, greedy -/
def Grd (g : Gr) (c : Nat) : List Int → List (List Int) → Prop
  | _, [] => True
  | pre, st :: post => st ≠ [] ∧ (st.length < c → st.length = (lwFree g pre).length) ∧ Grd g c (pre ++ st) post
theorem lwFree_congr {g : Gr} {a b : List Int} (h : ∀ k, k ∈ a ↔ k ∈ b) : lwFree g a = lwFree g b := by
  unfold lwFree
  refine List.filter_congr fun k _ => ?_
  have e1 : decide (k ∈ a) = decide (k ∈ b) := decide_eq_decide.mpr (h k)
  have e2 : isFr g a k = isFr g b k := by
    rw [Bool.eq_iff_iff, isFr_iff, isFr_iff]
    exact ⟨fun z p m => (h p).mp (z p m), fun z p m => (h p).mpr (z p m)⟩
  rw [e1, e2]
theorem grd_congr {g : Gr} {c : Nat} : ∀ (s : List (List Int)) {a b : List Int}, (∀ k, k ∈ a ↔ k ∈ b) → Grd g c a s → Grd g c b s
  | [], _, _, _, _ => trivial
  | st :: s, a, b, h, ⟨h1, h2, h3⟩ => ⟨h1, by rw [← lwFree_congr h]; exact h2, grd_congr s (fun k => by rw [List.mem_append, List.mem_append, h k]) h3⟩
section
variable {g : Gr} {c : Nat} {order : List Int}
theorem sortI_len {is : List Int} (nd : is.Nodup) : (sortI is).length = is.length := by
  have p : (sortI is).Perm is := (List.perm_ext_iff_of_nodup ((sortI_asc is).imp fun h => by omega) nd).mpr fun k => sortI_mem is k
  exact p.length_eq
theorem free_len (O : Ord g.length order) (done : List Int) : ((order.filter fun k => !decide (k ∈ done)).filter (isFr g done)).length = (lwFree g done).length := by
  have p : ((order.filter fun k => !decide (k ∈ done)).filter (isFr g done)).Perm (lwFree g done) := by
    refine (List.perm_ext_iff_of_nodup ((O.nd.filter _).filter _) ((rng_nodup _).filter _)).mpr fun k => ?_
    show _ ↔ k ∈ (rngI g.length).filter fun k => !decide (k ∈ done) && isFr g done k
    rw [List.mem_filter, List.mem_filter, List.mem_filter, O.mem, mem_rng, Bool.and_eq_true]
    exact and_assoc
  exact p.length_eq
theorem pk_sch (G : GOk g) (O : Ord g.length order) (hc : 1 ≤ c) : ∀ (m : Nat) (done : List Int), Sch g c done (pk g c m done (order.filter fun k => !decide (k ∈ done))) ∧ Grd g c done (pk g c m done (order.filter fun k => !decide (k ∈ done)))
  | 0, done => ⟨trivial, trivial⟩
  | m + 1, done => by
    rw [pk]
    by_cases e : (order.filter fun k => !decide (k ∈ done)) = []
    · rw [if_pos e]; exact ⟨trivial, trivial⟩
    · rw [if_neg e, left_next]
      obtain ⟨i1, i2⟩ := pk_sch G O hc m (done ++ pkStep g c done (order.filter fun k => !decide (k ∈ done)))
      have nd := step_nodup (g := g) (c := c) (done := done) (O.nd.filter fun k => !decide (k ∈ done))
      have ns := step_some G O hc e
      generalize hst : pkStep g c done (order.filter fun k => !decide (k ∈ done)) = st at i1 i2 nd ns
      have sub : ∀ k ∈ st, k ∈ (order.filter fun k => !decide (k ∈ done)) ∧ isFr g done k = true := fun k mk => step_sub (hst ▸ mk)
      have cg : ∀ k, k ∈ done ++ st ↔ k ∈ done ++ sortI st := fun k => by rw [List.mem_append, List.mem_append, sortI_mem]
      have ln := sortI_len nd
      have e2 : st.length = min c (lwFree g done).length := by
        rw [← hst, ← free_len O done]
        unfold pkStep
        rw [List.length_take]
      refine ⟨⟨by omega, sortI_asc _, fun k mk => (O.mem k).mp (List.mem_filter.mp (sub k ((sortI_mem _ _).mp mk)).1).1, fun k mk z => ?_, fun k mk => isFr_iff.mp (sub k ((sortI_mem _ _).mp mk)).2, sch_congr _ cg i1⟩, fun z => ns ?_, fun hlt => by omega, grd_congr _ cg i2⟩
      · have := (List.mem_filter.mp (sub k ((sortI_mem _ _).mp mk)).1).2
        simp [z] at this
      · rw [z] at ln
        exact List.length_eq_zero_iff.mp ln.symm
theorem pk_all (G : GOk g) (O : Ord g.length order) (hc : 1 ≤ c) : ∀ (m : Nat) (done : List Int), (order.filter fun k => !decide (k ∈ done)).length < m → ∀ k ∈ order, k ∉ done → k ∈ (pk g c m done (order.filter fun k => !decide (k ∈ done))).flatten
  | 0, done, h, _, _, _ => by omega
  | m + 1, done, h, k, mk, nk => by
    have mk' : k ∈ order.filter fun k => !decide (k ∈ done) := List.mem_filter.mpr ⟨mk, by simp [nk]⟩
    have e : (order.filter fun k => !decide (k ∈ done)) ≠ [] := List.ne_nil_of_mem mk'
    rw [pk, if_neg e, left_next, List.flatten_cons, List.mem_append, sortI_mem]
    by_cases c1 : k ∈ pkStep g c done (order.filter fun k => !decide (k ∈ done))
    · exact .inl c1
    · have hs := step_some (c := c) G O hc e
      have hlt := left_less hs fun k mk => (step_sub (g := g) (c := c) mk).1
      exact .inr (pk_all G O hc m _ (by omega) k mk (by rw [List.mem_append]; exact fun z => z.elim nk c1))
end
end KG

namespace KG
open PySem PySem.Spec PyProof.Rows L2
/-! ### joined graphs and their spans, without the language -/
def mx (ns : List Int) : Int := ns.foldl (fun a b => if a < b then b else a) 0
theorem mx_ge0 (ns : List Int) : 0 ≤ mx ns := (fold_ge ns 0).1
theorem mx_ge {ns : List Int} {y : Int} (m : y ∈ ns) : y ≤ mx ns := (fold_ge ns 0).2.1 y m
theorem mx_mem (ns : List Int) : mx ns = 0 ∨ mx ns ∈ ns := (fold_ge ns 0).2.2
theorem mx_le {ns : List Int} {b : Int} (h0 : 0 ≤ b) (h : ∀ y ∈ ns, y ≤ b) : mx ns ≤ b := by
  rcases mx_mem ns with e | e
  · omega
  · exact h _ e
theorem maxI_mx {ns : List Int} (h : ∀ y ∈ ns, 0 ≤ y) : maxI 0 ns = mx ns := by
  cases ns with
  | nil => rfl
  | cons n r =>
    have h1 := maxI_mem (d := 0) (List.cons_ne_nil n r)
    have h2 := mx_ge h1
    have h3 := mx_le (ns := n :: r) (h _ h1) fun y m => maxI_ge m
    omega
theorem mx_app (a b : List Int) : mx (a ++ b) = if mx a < mx b then mx b else mx a := by
  have ha := mx_ge0 a
  have hb := mx_ge0 b
  have h1 : mx (a ++ b) ≤ if mx a < mx b then mx b else mx a := mx_le (by split <;> omega) fun y m => by
    rcases List.mem_append.mp m with m | m
    · have := mx_ge m; split <;> omega
    · have := mx_ge m; split <;> omega
  have h2 : mx a ≤ mx (a ++ b) := mx_le (mx_ge0 _) fun y m => mx_ge (List.mem_append_left _ m)
  have h3 : mx b ≤ mx (a ++ b) := mx_le (mx_ge0 _) fun y m => mx_ge (List.mem_append_right _ m)
  split at h1 <;> split <;> omega
theorem mx_add {ns : List Int} (hn : ns ≠ []) (h : ∀ y ∈ ns, 0 ≤ y) {s : Int} (hs : 0 ≤ s) : mx (ns.map (· + s)) = mx ns + s := by
  have h1 : mx (ns.map (· + s)) ≤ mx ns + s := mx_le (by have := mx_ge0 ns; omega) fun y m => by
    obtain ⟨x, mx', rfl⟩ := List.mem_map.mp m
    have := mx_ge mx'
    omega
  have h2 : mx ns ∈ ns := by
    rcases mx_mem ns with e | e
    · obtain ⟨x, m⟩ := List.exists_mem_of_ne_nil _ hn
      have := mx_ge m
      have := h x m
      have e2 : x = mx ns := by omega
      exact e2 ▸ m
    · exact e
  have h3 : mx ns + s ≤ mx (ns.map (· + s)) := mx_ge (List.mem_map.mpr ⟨_, h2, rfl⟩)
  omega
def atL (l : List Int) (k : Int) : Int := l.getD k.toNat 0
def hdGo : List Int → Gr → List Int
  | acc, [] => acc
  | acc, r :: g => hdGo (acc ++ [mx (r.map fun j => atL acc j + 1)]) g
def hd (g : Gr) : List Int := hdGo [] g
def sp (g : Gr) : Int := mx ((hd g).map (· + 1))
theorem hdGo_len : ∀ (g : Gr) (acc : List Int), (hdGo acc g).length = acc.length + g.length
  | [], acc => rfl
  | r :: g, acc => by rw [hdGo, hdGo_len g]; simp; omega
theorem hdGo_ge : ∀ (g : Gr) (acc : List Int), (∀ y ∈ acc, 0 ≤ y) → ∀ y ∈ hdGo acc g, 0 ≤ y
  | [], acc, h => h
  | r :: g, acc, h => hdGo_ge g _ fun y m => by
    rcases List.mem_append.mp m with m | m
    · exact h y m
    · rw [List.mem_singleton.mp m]; exact mx_ge0 _
theorem hd_ge (g : Gr) : ∀ y ∈ hd g, 0 ≤ y := hdGo_ge g [] fun y m => by cases m
theorem hdGo_app : ∀ (g h : Gr) (acc : List Int), hdGo acc (g ++ h) = hdGo (hdGo acc g) h
  | [], h, acc => rfl
  | r :: g, h, acc => by
    rw [List.cons_append, hdGo, hdGo, hdGo_app g h]
theorem hd_app (g h : Gr) : hd (g ++ h) = hdGo (hd g) h := hdGo_app g h []
theorem atL_left {a b : List Int} {k : Int} (h : k.toNat < a.length) : atL (a ++ b) k = atL a k := by
  unfold atL
  rw [List.getD_eq_getElem?_getD, List.getD_eq_getElem?_getD, List.getElem?_append_left h]
theorem atL_right {a b : List Int} {k : Int} (h : 0 ≤ k) : atL (a ++ b) (k + a.length) = atL b k := by
  unfold atL
  rw [List.getD_eq_getElem?_getD, List.getD_eq_getElem?_getD, List.getElem?_append_right (by omega)]
  congr 2
  omega
theorem atL_mem {a : List Int} {k : Int} (h : k.toNat < a.length) : atL a k ∈ a := by
  unfold atL
  rw [List.getD_eq_getElem?_getD, List.getElem?_eq_getElem h]
  exact List.getElem_mem h
theorem atL_ge {a : List Int} (h : ∀ y ∈ a, 0 ≤ y) (k : Int) : 0 ≤ atL a k := by
  by_cases c : k.toNat < a.length
  · exact h _ (atL_mem c)
  · unfold atL
    rw [List.getD_eq_getElem?_getD, List.getElem?_eq_none (by omega)]
    exact Int.le_refl _
theorem atL_map {a : List Int} {s k : Int} (h : k.toNat < a.length) : atL (a.map (· + s)) k = atL a k + s := by
  unfold atL
  rw [List.getD_eq_getElem?_getD, List.getD_eq_getElem?_getD, List.getElem?_map, List.getElem?_eq_getElem h]
  rfl
/-- rows from n on: what they hold lies below -/
def Low (n : Nat) (g : Gr) : Prop := ∀ (i : Nat) (r : List Int), g[i]? = some r → ∀ x ∈ r, 0 ≤ x ∧ x < n + i
theorem Low.tail {n : Nat} {r : List Int} {g : Gr} (L : Low n (r :: g)) : Low (n + 1) g := fun i q hq x m => by
  have := L (i + 1) q hq x m
  omega
theorem Low.head {n : Nat} {r : List Int} {g : Gr} (L : Low n (r :: g)) : ∀ x ∈ r, 0 ≤ x ∧ x < n := fun x m => by
  have := L 0 r rfl x m
  omega
theorem GOk.Low {g : Gr} (G : GOk g) : Low 0 g := fun i r h x m => by
  have := G.low i r h x m
  omega
theorem hdGo_left : ∀ (g : Gr) (acc : List Int) (k : Int), k.toNat < acc.length → atL (hdGo acc g) k = atL acc k
  | [], acc, k, _ => rfl
  | r :: g, acc, k, h => by
    rw [hdGo, hdGo_left g _ k (by simp; omega), atL_left h]
theorem hdGo_row : ∀ (g : Gr) (acc : List Int), Low acc.length g → ∀ (i : Nat) (r : List Int), g[i]? = some r → ∀ j ∈ r, atL (hdGo acc g) j + 1 ≤ atL (hdGo acc g) ((acc.length + i : Nat) : Int)
  | r :: g, acc, L, 0, q, h, j, m => by
    cases h
    have lj := L.head j m
    rw [hdGo, hdGo_left g _ j (by simp; omega), hdGo_left g _ _ (by simp), atL_left (by omega)]
    have e : atL (acc ++ [mx (r.map fun j => atL acc j + 1)]) ((acc.length + 0 : Nat) : Int) = mx (r.map fun j => atL acc j + 1) := by
      unfold atL
      rw [List.getD_eq_getElem?_getD, List.getElem?_append_right (by omega), show ((acc.length + 0 : Nat) : Int).toNat - acc.length = 0 by omega]
      rfl
    rw [e]
    exact mx_ge (List.mem_map.mpr ⟨j, m, rfl⟩)
  | r :: g, acc, L, i + 1, q, h, j, m => by
    have := hdGo_row g (acc ++ [mx (r.map fun j => atL acc j + 1)]) (by rw [List.length_append]; exact L.tail) i q h j m
    rw [hdGo]
    rw [show (acc.length + (i + 1) : Nat) = ((acc ++ [mx (r.map fun j => atL acc j + 1)]).length + i : Nat) by simp; omega]
    exact this
theorem hd_row {g : Gr} (G : GOk g) {i : Nat} {r : List Int} (h : g[i]? = some r) {j : Int} (m : j ∈ r) : atL (hd g) j + 1 ≤ atL (hd g) (i : Int) := by
  have := hdGo_row g [] G.Low i r h j m
  simpa [hd] using this
/-! ### ends -/
def inRow (g : Gr) (i : Int) : Bool := g.any fun r => decide (i ∈ r)
theorem inRow_iff {g : Gr} {i : Int} : inRow g i = true ↔ ∃ r ∈ g, i ∈ r := by
  unfold inRow
  rw [List.any_eq_true]
  exact ⟨fun ⟨r, m, h⟩ => ⟨r, m, of_decide_eq_true h⟩, fun ⟨r, m, h⟩ => ⟨r, m, decide_eq_true h⟩⟩
def ends (g : Gr) : List Int := (rngI g.length).filter fun i => !inRow g i
theorem mem_ends {g : Gr} {i : Int} : i ∈ ends g ↔ (0 ≤ i ∧ i < g.length) ∧ inRow g i = false := by
  unfold ends
  rw [List.mem_filter, mem_rng, Bool.not_eq_true']
theorem end_above {g : Gr} (G : GOk g) : ∀ (n : Nat) (i : Nat), i < g.length → g.length - i ≤ n → ∃ e ∈ ends g, atL (hd g) (i : Int) ≤ atL (hd g) e
  | 0, i, h, h2 => by omega
  | n + 1, i, h, h2 => by
    cases c : inRow g (i : Int) with
    | false => exact ⟨i, mem_ends.mpr ⟨⟨by omega, by omega⟩, c⟩, Int.le_refl _⟩
    | true =>
      obtain ⟨r, mr, mi⟩ := inRow_iff.mp c
      obtain ⟨k, hk⟩ := List.mem_iff_getElem?.mp mr
      have lk := G.low k r hk _ mi
      have kl : k < g.length := (List.getElem?_eq_some_iff.mp hk).1
      have hr := hd_row G hk mi
      obtain ⟨e, me, he⟩ := end_above G n k kl (by omega)
      exact ⟨e, me, by omega⟩
theorem ends_nil {g : Gr} (G : GOk g) (h : ends g = []) : g = [] := by
  cases e : g with
  | nil => rfl
  | cons r q =>
    obtain ⟨x, m, _⟩ := end_above G g.length 0 (by rw [e]; simp) (by omega)
    rw [h] at m
    cases m
theorem hd_len (g : Gr) : (hd g).length = g.length := by rw [hd, hdGo_len]; simp
theorem sp_ends {g : Gr} (G : GOk g) : mx ((ends g).map fun i => atL (hd g) i + 1) = sp g := by
  have h1 : mx ((ends g).map fun i => atL (hd g) i + 1) ≤ sp g := mx_le (mx_ge0 _) fun y m => by
    obtain ⟨i, mi, rfl⟩ := List.mem_map.mp m
    have hi := (mem_ends.mp mi).1
    exact mx_ge (List.mem_map.mpr ⟨_, atL_mem (by rw [hd_len]; omega), rfl⟩)
  have h2 : sp g ≤ mx ((ends g).map fun i => atL (hd g) i + 1) := mx_le (mx_ge0 _) fun y m => by
    obtain ⟨z, mz, rfl⟩ := List.mem_map.mp m
    obtain ⟨i, hi⟩ := List.mem_iff_getElem?.mp mz
    have li : i < g.length := by have := (List.getElem?_eq_some_iff.mp hi).1; rwa [hd_len] at this
    obtain ⟨e, me, he⟩ := end_above G g.length i li (by omega)
    have ez : atL (hd g) (i : Int) = z := by
      unfold atL
      rw [List.getD_eq_getElem?_getD, Int.toNat_natCast, hi]
      rfl
    have := mx_ge (List.mem_map.mpr ⟨e, me, rfl⟩ : atL (hd g) e + 1 ∈ (ends g).map fun i => atL (hd g) i + 1)
    omega
  omega
theorem ends_asc (g : Gr) : (ends g).Pairwise (· < ·) := (rng_asc _).filter _
/-! ### joined -/
def shift (n : Nat) (r : List Int) : List Int := r.map fun j => j + n
def ser (g h : Gr) : Gr := g ++ h.map fun r => if r = [] then ends g else shift g.length r
def par (g h : Gr) : Gr := g ++ h.map (shift g.length)
theorem shift_asc {n : Nat} {r : List Int} (h : r.Pairwise (· < ·)) : (shift n r).Pairwise (· < ·) := by
  unfold shift
  rw [List.pairwise_map]
  exact h.imp fun h => by omega
theorem mem_shift {n : Nat} {r : List Int} {x : Int} : x ∈ shift n r ↔ x - n ∈ r := by
  unfold shift
  rw [List.mem_map]
  constructor
  · rintro ⟨a, m, rfl⟩
    rw [show a + (n : Int) - n = a by omega]
    exact m
  · intro m
    exact ⟨_, m, by omega⟩
theorem shift_nil {n : Nat} {r : List Int} : shift n r = [] ↔ r = [] := by unfold shift; exact List.map_eq_nil_iff
theorem app_ok {g h k : Gr} (G : GOk g) (hl : g.length + h.length ≤ 62) (el : k.length = h.length) (a : ∀ r ∈ k, r.Pairwise (· < ·)) (l : ∀ (i : Nat) (r : List Int), k[i]? = some r → ∀ x ∈ r, 0 ≤ x ∧ x < g.length + i) : GOk (g ++ k) := by
  refine ⟨by rw [List.length_append]; omega, fun r m => ?_, fun i r h x m => ?_⟩
  · rcases List.mem_append.mp m with m | m
    · exact G.asc r m
    · exact a r m
  · by_cases c : i < g.length
    · rw [List.getElem?_append_left c] at h
      exact G.low i r h x m
    · rw [List.getElem?_append_right (by omega)] at h
      have := l _ r h x m
      omega
theorem par_ok {g h : Gr} (G : GOk g) (H : GOk h) (hl : g.length + h.length ≤ 62) : GOk (par g h) := by
  refine app_ok G hl (List.length_map ..) (fun r m => ?_) fun i r hr x m => ?_
  · obtain ⟨q, mq, rfl⟩ := List.mem_map.mp m
    exact shift_asc (H.asc q mq)
  · rw [List.getElem?_map] at hr
    cases e : h[i]? with
    | none => rw [e] at hr; cases hr
    | some q =>
      rw [e] at hr
      cases hr
      have := H.low i q e _ (mem_shift.mp m)
      omega
theorem ser_ok {g h : Gr} (G : GOk g) (H : GOk h) (hl : g.length + h.length ≤ 62) : GOk (ser g h) := by
  refine app_ok G hl (List.length_map ..) (fun r m => ?_) fun i r hr x m => ?_
  · obtain ⟨q, mq, rfl⟩ := List.mem_map.mp m
    try dsimp only
    split
    · exact ends_asc g
    · exact shift_asc (H.asc q mq)
  · rw [List.getElem?_map] at hr
    cases e : h[i]? with
    | none => rw [e] at hr; cases hr
    | some q =>
      rw [e] at hr
      cases hr
      dsimp only at m
      split at m
      · have := (mem_ends.mp m).1
        omega
      · have := H.low i q e _ (mem_shift.mp m)
        omega
theorem ser_len (g h : Gr) : (ser g h).length = g.length + h.length := by unfold ser; simp
theorem par_len (g h : Gr) : (par g h).length = g.length + h.length := by unfold par; simp
theorem hdGo_par : ∀ (h : Gr) (A B : List Int), Low B.length h → hdGo (A ++ B) (h.map (shift A.length)) = A ++ hdGo B h
  | [], A, B, _ => rfl
  | r :: h, A, B, L => by
    rw [List.map_cons, hdGo, hdGo]
    have e : mx ((shift A.length r).map fun j => atL (A ++ B) j + 1) = mx (r.map fun j => atL B j + 1) := by
      unfold shift
      rw [List.map_map]
      congr 1
      refine List.map_congr_left fun j m => ?_
      show atL (A ++ B) (j + A.length) + 1 = _
      rw [atL_right (L.head j m).1]
    rw [e, List.append_assoc]
    exact hdGo_par h A _ (by rw [List.length_append]; exact L.tail)
theorem hd_par {g h : Gr} (H : GOk h) : hd (par g h) = hd g ++ hd h := by
  unfold par
  rw [hd_app]
  have := hdGo_par h (hd g) [] H.Low
  rw [List.append_nil, hd_len] at this
  exact this
theorem sp_par {g h : Gr} (H : GOk h) : sp (par g h) = if sp g < sp h then sp h else sp g := by
  unfold sp
  rw [hd_par H, List.map_append, mx_app]
theorem hdGo_ser {E : List Int} {s : Int} (hs : 0 ≤ s) : ∀ (h : Gr) (A B : List Int), Low B.length h → (∀ x ∈ E, x.toNat < A.length) → (∀ y ∈ B, 0 ≤ y) → mx (E.map fun i => atL A i + 1) = s →
    hdGo (A ++ B.map (· + s)) (h.map fun r => if r = [] then E else shift A.length r) = A ++ (hdGo B h).map (· + s)
  | [], A, B, _, _, _, _ => rfl
  | r :: h, A, B, L, hE, hB, he => by
    rw [List.map_cons, hdGo, hdGo]
    have e : mx ((if r = [] then E else shift A.length r).map fun j => atL (A ++ B.map (· + s)) j + 1) = mx (r.map fun j => atL B j + 1) + s := by
      by_cases c : r = []
      · subst c
        rw [if_pos rfl]
        have q : (E.map fun j => atL (A ++ B.map (· + s)) j + 1) = E.map fun j => atL A j + 1 := List.map_congr_left fun j m => by rw [atL_left (hE j m)]
        rw [q, he]
        show s = mx [] + s
        have : mx [] = 0 := rfl
        omega
      · rw [if_neg c]
        have q : ((shift A.length r).map fun j => atL (A ++ B.map (· + s)) j + 1) = (r.map fun j => atL B j + 1).map (· + s) := by
          unfold shift
          rw [List.map_map, List.map_map]
          refine List.map_congr_left fun j m => ?_
          show atL (A ++ B.map (· + s)) (j + A.length) + 1 = atL B j + 1 + s
          have lj := L.head j m
          rw [atL_right lj.1, atL_map (by omega)]
          omega
        rw [q, mx_add (by simpa using c) (fun y m => by
          obtain ⟨j, _, rfl⟩ := List.mem_map.mp m
          have := atL_ge hB j
          omega) hs]
    rw [e, List.append_assoc, show (B.map (· + s) ++ [mx (r.map fun j => atL B j + 1) + s]) = (B ++ [mx (r.map fun j => atL B j + 1)]).map (· + s) by simp]
    refine hdGo_ser hs h A _ (by rw [List.length_append]; exact L.tail) hE (fun y m => ?_) he
    rcases List.mem_append.mp m with m | m
    · exact hB y m
    · rw [List.mem_singleton.mp m]; exact mx_ge0 _
theorem hd_ser {g h : Gr} (G : GOk g) (H : GOk h) : hd (ser g h) = hd g ++ (hd h).map (· + sp g) := by
  unfold ser
  rw [hd_app]
  have := hdGo_ser (E := ends g) (s := sp g) (mx_ge0 _) h (hd g) [] H.Low (fun x m => by have := (mem_ends.mp m).1; rw [hd_len]; omega) (fun y m => by cases m) (sp_ends G)
  rw [List.map_nil, List.append_nil, hd_len] at this
  exact this
theorem sp_ser {g h : Gr} (G : GOk g) (H : GOk h) : sp (ser g h) = sp g + sp h := by
  have e : sp (ser g h) = if sp g < mx (((hd h).map (· + sp g)).map (· + 1)) then mx (((hd h).map (· + sp g)).map (· + 1)) else sp g := by
    unfold sp
    rw [hd_ser G H, List.map_append, mx_app]
    rfl
  have hg : 0 ≤ sp g := mx_ge0 _
  rw [e]
  cases c : hd h with
  | nil =>
    have : sp h = 0 := by unfold sp; rw [c]; rfl
    have z : mx ((([] : List Int).map (· + sp g)).map (· + 1)) = 0 := rfl
    rw [z, this]
    split <;> omega
  | cons x l =>
    have q : ((x :: l).map (· + sp g)).map (· + 1) = ((x :: l).map (· + 1)).map (· + sp g) := by
      rw [List.map_map, List.map_map]
      refine List.map_congr_left fun j m => ?_
      show j + sp g + 1 = j + 1 + sp g
      omega
    have hh := hd_ge h
    rw [c] at hh
    rw [q, mx_add (by simp) (fun y m => by
      obtain ⟨j, mj, rfl⟩ := List.mem_map.mp m
      have := hh j mj
      omega) hg]
    have eh : sp h = mx ((x :: l).map (· + 1)) := by unfold sp; rw [c]
    rw [← eh]
    have : 0 ≤ sp h := mx_ge0 _
    split <;> omega
theorem rng_add (a b : Nat) : rngI (a + b) = rngI a ++ (rngI b).map fun i => i + (a : Int) := by
  unfold rngI
  rw [List.range_add, List.map_append, List.map_map, List.map_map]
  congr 1
  refine List.map_congr_left fun k _ => ?_
  show ((a + k : Nat) : Int) = (k : Int) + a
  omega
theorem ends_ser {g h : Gr} (G : GOk g) (H : GOk h) (hn : h ≠ []) : ends (ser g h) = shift g.length (ends h) := by
  unfold ends
  rw [ser_len, rng_add, List.filter_append]
  have e1 : (rngI g.length).filter (fun i => !inRow (ser g h) i) = [] := by
    rw [List.filter_eq_nil_iff]
    intro i m c
    rw [mem_rng] at m
    rw [Bool.not_eq_true'] at c
    have c' : ¬ inRow (ser g h) i = true := by rw [c]; exact Bool.false_ne_true
    cases q : inRow g i with
    | true =>
      obtain ⟨r, mr, mi⟩ := inRow_iff.mp q
      exact c' (inRow_iff.mpr ⟨r, List.mem_append_left _ mr, mi⟩)
    | false =>
      have me : i ∈ ends g := mem_ends.mpr ⟨m, q⟩
      match h, hn, H with
      | r :: h, _, H =>
        have hr : r = [] := by
          cases r with
          | nil => rfl
          | cons x r =>
            have := H.low 0 _ rfl x List.mem_cons_self
            omega
        refine c' (inRow_iff.mpr ⟨ends g, List.mem_append_right _ ?_, me⟩)
        rw [List.map_cons, if_pos hr]
        exact List.mem_cons_self
  rw [e1, List.nil_append, List.filter_map]
  unfold shift
  congr 1
  refine List.filter_congr fun i m => ?_
  rw [mem_rng] at m
  show (!inRow (ser g h) (i + g.length)) = !inRow h i
  congr 1
  rw [Bool.eq_iff_iff, inRow_iff, inRow_iff]
  constructor
  · rintro ⟨r, mr, mi⟩
    rcases List.mem_append.mp mr with mr | mr
    · obtain ⟨k, hk⟩ := List.mem_iff_getElem?.mp mr
      have := G.low k r hk _ mi
      have := (List.getElem?_eq_some_iff.mp hk).1
      omega
    · obtain ⟨q, mq, rfl⟩ := List.mem_map.mp mr
      try dsimp only at mi
      split at mi
      · have := (mem_ends.mp mi).1
        omega
      · rw [mem_shift] at mi
        rw [show i + (g.length : Int) - g.length = i by omega] at mi
        exact ⟨q, mq, mi⟩
  · rintro ⟨q, mq, mi⟩
    refine ⟨shift g.length q, List.mem_append_right _ (List.mem_map.mpr ⟨q, mq, if_neg (List.ne_nil_of_mem mi)⟩), ?_⟩
    rw [mem_shift, show i + (g.length : Int) - g.length = i by omega]
    exact mi
theorem ser_nil (g : Gr) : ser g [] = g := by unfold ser; simp
theorem shift_shift (a b : Nat) (r : List Int) : shift a (shift b r) = shift (a + b) r := by
  unfold shift
  rw [List.map_map]
  refine List.map_congr_left fun j _ => ?_
  show j + (b : Int) + a = j + ((a + b : Nat) : Int)
  omega
theorem ser_assoc {g h f : Gr} (G : GOk g) (H : GOk h) : ser (ser g h) f = ser g (ser h f) := by
  have e1 : ser (ser g h) f = g ++ (h.map (fun r => if r = [] then ends g else shift g.length r) ++ f.map fun r => if r = [] then ends (ser g h) else shift (ser g h).length r) := by
    rw [← List.append_assoc]
    rfl
  have e2 : ser g (ser h f) = g ++ (h.map (fun r => if r = [] then ends g else shift g.length r) ++ (f.map fun r => if r = [] then ends h else shift h.length r).map fun r => if r = [] then ends g else shift g.length r) := by
    show g ++ (h ++ _).map _ = _
    rw [List.map_append]
  rw [e1, e2]
  congr 2
  rw [List.map_map]
  refine List.map_congr_left fun r _ => ?_
  show (if r = [] then ends (ser g h) else shift (ser g h).length r) = if (if r = [] then ends h else shift h.length r) = [] then ends g else shift g.length (if r = [] then ends h else shift h.length r)
  by_cases c : r = []
  · rw [if_pos c, if_pos c]
    by_cases q : h = []
    · subst q
      rw [ser_nil]
      rfl
    · rw [ends_ser G H q, if_neg fun z => q (ends_nil H z)]
  · rw [if_neg c, if_neg c, if_neg (fun z => c (shift_nil.mp z)), shift_shift, ser_len]
end KG

namespace L2
open PySem PySem.Spec PyProof.Rows
theorem keep_d {en : En} {m : M SV} {e : En} {d : D} (h : m en = .ok (.d d) e) : mkeep m en = .ok (.d d) e := by rw [s_keep, h]
section
variable {en : En}
theorem looks_ds (ds : List D) : looks en (ds.map SV.d) = some ds := by
  induction ds with
  | nil => rfl
  | cons d r ih => rw [List.map_cons, s_looks_cons, ih, s_look_d]
theorem looksA_ds (ds : List D) : looksA en (ds.map SV.d) = some ds := by
  induction ds with
  | nil => rfl
  | cons d r ih => rw [List.map_cons, s_looksA_cons, ih, s_lookA_d]
theorem all_ds (ds : List D) : ((ds.map SV.d).all fun s => match s with | .d _ => true | _ => false) = true := by
  rw [List.all_map]
  exact List.all_eq_true.mpr fun _ _ => rfl
theorem v_nil : mNil en = .ok (([] : List D).map SV.d) en := rfl
theorem v_cons {m : M SV} {r : M (List SV)} {d : D} {ds : List D} (h : mfrz m en = .ok (.d d) en) (h2 : r en = .ok (ds.map SV.d) en) : mCons m r en = .ok ((d :: ds).map SV.d) en := cons_ok h h2 rfl
theorem v_lst {r : M (List SV)} {ds : List D} (h : r en = .ok (ds.map SV.d) en) (hl : ds.length ≤ 1000) : mfrz (mLst r) en = .ok (.d (.list ds)) en := by
  have hz := sizeLine_ge
  refine frz_own ?_
  rw [s_lst, h]
  dsimp only
  rw [looks_ds]
  dsimp only
  rw [if_pos ⟨by omega, all_ds ds⟩]
theorem v_tup {r : M (List SV)} {ds : List D} (h : r en = .ok (ds.map SV.d) en) (hl : ds.length ≤ 1000) : mTup r en = .ok (.d (.tuple ds)) en := by
  have hz := sizeLine_ge
  rw [s_tup, h]
  dsimp only
  rw [looks_ds]
  dsimp only
  rw [if_pos ⟨by omega, all_ds ds⟩]
theorem v_call {F : Fm} {r : M (List SV)} {ds : List D} {d : D} {e2 : En} (h : r en = .ok (ds.map SV.d) en) (h2 : F ds = .ok (.d d) e2) (hf : flat d = true) : mCall F r en = .ok (.d d) en := call_d h (looksA_ds ds) h2 hf
theorem call_exc {F : Fm} {r : M (List SV)} {ds : List D} {x : Xc} {e2 : En} (h : r en = .ok (ds.map SV.d) en) (h2 : F ds = .exc x e2) (hf : frzAll en = en) : mCall F r en = .exc x en := by
  rw [s_call, h]
  dsimp only
  rw [looksA_ds]
  dsimp only
  rw [h2]
  dsimp only
  rw [hf]
theorem seq_exc {m n : M Ct} {e : En} {x : Xc} (h : m en = .exc x e) : mSeq m n en = .exc x e := by rw [s_seq, h]
theorem expr_exc {m : M SV} {e : En} {x : Xc} (h : m en = .exc x e) : mExpr m en = .exc x e := by rw [s_expr, h]
theorem ret_exc {m : M SV} {e : En} {x : Xc} (h : m en = .exc x e) : mRet m en = .exc x e := by rw [s_ret, h]
theorem tup2_exc {m1 m2 : M SV} {d : D} {x : Xc} {e : En} (h1 : mfrz m1 en = .ok (.d d) en) (h2 : m2 en = .exc x e) : mTup (mCons m1 (mCons m2 (mNil))) en = .exc x e := by
  have q : mfrz m2 en = .exc x e := by rw [s_frz, h2]
  rw [s_tup, s_cons, h1]
  dsimp only
  rw [s_cons, q]
theorem notB {m : M SV} (h : m en = .ok (.d (.bool true)) en) : mNotT (mB m) en = .ok false en := by
  rw [s_notT, s_B, h]
  rfl
theorem ifS_no {t : M Bool} {a b : M Ct} {e : En} (h : t en = .ok false e) : mIfS t a b en = b e := by rw [s_ifS, h]
theorem ifS_nx {t : M Bool} {a : M Ct} {e : En} (h : t en = .ok false e) : mIfS t a mNx en = .ok .nx e := by rw [s_ifS, h]; rfl
theorem ifS_yes {t : M Bool} {a b : M Ct} {e : En} (h : t en = .ok true e) : mIfS t a b en = a e := by rw [s_ifS, h]
theorem or_no {t u : M Bool} {e : En} (h : t en = .ok false e) : mOrT t u en = u e := by rw [s_orT, h]
theorem and_yes {t u : M Bool} {e : En} (h : t en = .ok true e) : mAndT t u en = u e := by rw [s_andT, h]
theorem try_rt {kn : List (Str × Bool)} {i : Nat} {mb : M Ct} {mh : Xc → M Ct} {x : Xc} {en1 en2 : En} {d : D} (h1 : mb en = .exc x en1) (h2 : kn.lookup x.cls = some true) (h3 : noBor en1 = true) (h4 : mh x (en1.set i (some (.bor 0))) = .ok (.rt (.d d)) en2) (h5 : noBor (en2.set i none) = true) : mTry kn i mb mh en = .ok (.rt (.d d)) (en2.set i none) := by
  unfold mTry
  rw [h1]
  dsimp only
  rw [h2]
  dsimp only
  rw [if_pos h3, h4]
  dsimp only
  rw [if_pos h5]
theorem var_d {i : Nat} {d : D} (h : en[i]? = some (some (.d d))) : mfrz (mVar i) en = .ok (.d d) en := by simp only [s_frz, s_var, h]
end
end L2
namespace KG
open PySem PySem.Spec PyProof.Rows L2
theorem add_g {en : En} {a b : Gr} (hl : a.length + b.length ≤ 1000000) : dAdd (gD a) (gD b) en = .ok (.d (gD (a ++ b))) en := by
  have hz := sizeLine_ge
  show (if (a.map rowD).length + (b.map rowD).length ≤ sizeLine then (mpure (SV.d (.tuple (a.map rowD ++ b.map rowD))) : M SV) else mstuck) en = _
  rw [if_pos (by rw [List.length_map, List.length_map]; omega), ← List.map_append]
  rfl
end KG

namespace L2
open PySem PySem.Spec PyProof.Rows
/-! ### comprehensions with two for, over embedded items -/
theorem compGo2_emb {α β : Type} {f : α → D} {h : β → D} {tg tg1 : Tg} {vs1 : List Nat} {mc mc1 : M Bool} {mi1 me : M SV} {en0 : En} {ys : α → List β} {g : α → β → D} : ∀ (xs : List α) (acc : List D),
    (∀ x ∈ xs, ∃ en1, setTg tg (f x) en0 = some en1 ∧ mc en1 = .ok true en1 ∧ mfrz mi1 en1 = .ok (.d (.tuple ((ys x).map h))) en1 ∧ ∀ y ∈ ys x, ∃ en2, setTg tg1 (h y) (wipeEn en1 vs1) = some en2 ∧ mc1 en2 = .ok true en2 ∧ mkeep me en2 = .ok (.d (g x y)) en2) →
    acc.length + (xs.flatMap ys).length ≤ sizeLine → compGo2 tg mc tg1 vs1 mi1 mc1 me en0 (xs.map f) acc = some (acc ++ xs.flatMap fun x => (ys x).map (g x))
  | [], acc, _, _ => by simp [compGo2]
  | x :: r, acc, hx, l => by
    obtain ⟨en1, h1, h2, h3, h4⟩ := hx x List.mem_cons_self
    rw [List.flatMap_cons, List.length_append] at l
    have z := compGo_emb (f := h) (tg := tg1) (mc := mc1) (me := me) (en0 := wipeEn en1 vs1) (p := fun _ => true) (g := g x) (ys x) acc (fun y m => by
      obtain ⟨en2, q1, q2, q3⟩ := h4 y m
      exact ⟨en2, q1, q2, fun _ => q3⟩) (by omega)
    rw [List.filter_eq_self.mpr fun _ _ => rfl] at z
    rw [List.map_cons]
    unfold compGo2
    simp only [h1, h2, if_true, h3, z]
    rw [compGo2_emb r _ (fun x m => hx x (List.mem_cons_of_mem _ m)) (by rw [List.length_append, List.length_map]; omega), List.flatMap_cons, List.append_assoc]
theorem dcGo_emb {β : Type} {h : β → D} {tg : Tg} {mk mv : M SV} {en0 : En} {kk : β → Int} {gg : β → D} : ∀ (ys : List β) (acc : List (Key × D)),
    (∀ y ∈ ys, ∃ en1, setTg tg (h y) en0 = some en1 ∧ mkeep mk en1 = .ok (.d (.int (kk y))) en1 ∧ mkeep mv en1 = .ok (.d (gg y)) en1) →
    (acc.map (·.1) ++ ys.map fun y => (Sum.inl (kk y) : Key)).Nodup → acc.length + ys.length ≤ sizeLine → dcGo tg mYes mk mv en0 (ys.map h) acc = some (acc ++ ys.map fun y => (Sum.inl (kk y), gg y))
  | [], acc, _, _, _ => by simp [dcGo]
  | y :: r, acc, hy, nd, l => by
    obtain ⟨en1, h1, h2, h3⟩ := hy y List.mem_cons_self
    have e : mYes en1 = .ok true en1 := rfl
    have hl : acc.length < sizeLine := by simp at l; omega
    have hk : ∀ p ∈ acc, p.1 ≠ (Sum.inl (kk y) : Key) := fun p mp c => by
      rw [List.nodup_append] at nd
      exact nd.2.2 p.1 (List.mem_map.mpr ⟨p, mp, rfl⟩) _ List.mem_cons_self c
    rw [List.map_cons]
    unfold dcGo
    simp only [h1, e, if_true, h2, h3, keyD, true_and, hl, putD_fresh hk]
    rw [dcGo_emb r _ (fun y m => hy y (List.mem_cons_of_mem _ m)) (by simpa [List.append_assoc] using nd) (by simp at l ⊢; omega)]
    simp
theorem dcGo2_emb {α β : Type} {f : α → D} {h : β → D} {tg tg1 : Tg} {vs1 : List Nat} {mi1 mk mv : M SV} {en0 : En} {ys : α → List β} {kk : β → Int} {gg : α → β → D} : ∀ (xs : List α) (acc : List (Key × D)),
    (∀ x ∈ xs, ∃ en1, setTg tg (f x) en0 = some en1 ∧ mfrz mi1 en1 = .ok (.d (.tuple ((ys x).map h))) en1 ∧ ∀ y ∈ ys x, ∃ en2, setTg tg1 (h y) (wipeEn en1 vs1) = some en2 ∧ mkeep mk en2 = .ok (.d (.int (kk y))) en2 ∧ mkeep mv en2 = .ok (.d (gg x y)) en2) →
    (acc.map (·.1) ++ xs.flatMap fun x => (ys x).map fun y => (Sum.inl (kk y) : Key)).Nodup → acc.length + (xs.flatMap ys).length ≤ sizeLine → dcGo2 tg mYes tg1 vs1 mi1 mYes mk mv en0 (xs.map f) acc = some (acc ++ xs.flatMap fun x => (ys x).map fun y => (Sum.inl (kk y), gg x y))
  | [], acc, _, _, _ => by simp [dcGo2]
  | x :: r, acc, hx, nd, l => by
    obtain ⟨en1, h1, h3, h4⟩ := hx x List.mem_cons_self
    have e : mYes en1 = .ok true en1 := rfl
    rw [List.flatMap_cons, List.length_append] at l
    rw [List.flatMap_cons, ← List.append_assoc] at nd
    have z := dcGo_emb (h := h) (tg := tg1) (mk := mk) (mv := mv) (en0 := wipeEn en1 vs1) (kk := kk) (gg := gg x) (ys x) acc (fun y m => h4 y m) (List.nodup_append.mp nd).1 (by omega)
    rw [List.map_cons]
    unfold dcGo2
    simp only [h1, e, if_true, h3, z]
    rw [dcGo2_emb r _ (fun x m => hx x (List.mem_cons_of_mem _ m)) (by
      rw [List.map_append, List.map_map]
      exact nd) (by rw [List.length_append, List.length_map]; omega), List.flatMap_cons, List.append_assoc]
theorem comp2_ok {en : En} {tg tg1 : Tg} {vs vs1 : List Nat} {mc mc1 : M Bool} {mi1 me : M SV} {ds r : List D} (h : noOwn en vs = true) (e : compGo2 tg mc tg1 vs1 mi1 mc1 me (wipeEn en vs) ds [] = some r) : mComp2 tg vs mc tg1 vs1 mi1 mc1 me ds en = .ok (.own (.lst r)) en := by
  unfold mComp2
  rw [if_pos h, e]
theorem dcomp2_ok {en : En} {tg tg1 : Tg} {vs vs1 : List Nat} {mc mc1 : M Bool} {mi1 mk mv : M SV} {ds : List D} {r : List (Key × D)} (h : noOwn en vs = true) (e : dcGo2 tg mc tg1 vs1 mi1 mc1 mk mv (wipeEn en vs) ds [] = some r) : mDcGo2 tg vs mc tg1 vs1 mi1 mc1 mk mv ds en = .ok (.own (.dct r)) en := by
  unfold mDcGo2
  rw [if_pos h, e]
theorem lookD_tabI (x : Int) : ∀ kds : List (Key × D), lookD (.int x) (kds.map fun p => (kD p.1, p.2)) = valD kds (.inl x)
  | [] => rfl
  | p :: r => by
    have kk : keyD (kD p.1) = some p.1 := by cases p.1 <;> rfl
    have ih := lookD_tabI x r
    unfold valD at ih ⊢
    rw [List.map_cons, List.find?_cons]
    show (if keyD (kD p.1) = keyD (.int x) then some p.2 else lookD (.int x) (r.map fun p => (kD p.1, p.2))) = _
    rw [kk]
    by_cases h : p.1 = .inl x
    · simp [h, keyD]
    · have h2 : ¬ (some p.1 = keyD (.int x)) := fun c => h (by simpa [keyD] using c)
      rw [if_neg h2, ih]
      simp [h]
theorem ix_dctI (kvs : List (Key × D)) (k : Int) : ixD (dctD kvs) (.int k) = valD kvs (.inl k) := by
  rw [← lookD_tabI]
  unfold dctD
  cases kvs with
  | nil => rfl
  | cons p r =>
    obtain ⟨a, b⟩ := p
    cases a with
    | inl i =>
      show (if (keyD (.int k)).isSome then lookD (.int k) _ else none) = _
      rfl
    | inr z =>
      show (if (keyD (.int k)).isSome then lookD (.int k) _ else none) = _
      rfl
end L2
namespace K22
open PySem PySem.Spec PyProof.Rows L2 KG
theorem e_check : F_check_graph = KG.F_check_graph := rfl
theorem e_row : F_is_row = KG.F_is_row := rfl
theorem nodes_ok {s : Gr} (hl : s.flatten.length ≤ 1000) : F_nodes_of [gD s] = .ok (.own (.lst (s.flatten.map .int))) [] := by
  have hz := sizeLine_ge
  have e := compGo2_emb (f := rowD) (h := PyData.int) (tg := .nm 1) (tg1 := .nm 2) (vs1 := [2]) (mc := mYes) (mc1 := mYes) (mi1 := mVar 1) (me := mVar 2) (en0 := [some (.d (gD s)), none, none]) (ys := fun r : List Int => r) (g := fun _ k => .int k) s [] (fun r m =>
    ⟨[some (.d (gD s)), some (.d (rowD r)), none], rfl, rfl, rfl, fun y my => ⟨[some (.d (gD s)), some (.d (rowD r)), some (.d (.int y))], rfl, rfl, rfl⟩⟩) (by
      have : s.flatMap (fun r : List Int => r) = s.flatten := by simp
      rw [this]; simp only [List.length_nil]; omega)
  have e2 : s.flatMap (fun r : List Int => r.map PyData.int) = s.flatten.map .int := by rw [List.map_flatten, ← List.flatMap_def]
  rw [List.nil_append, e2] at e
  refine run_own rfl (e := [some (.d (gD s)), none, none]) ?_
  unfold m_nodes_of
  show mRet _ [some (.d (gD s)), none, none] = _
  have h : mLc2 (.nm 1) [1, 2] (mVar 0) (mYes) (.nm 2) [2] (mVar 1) (mYes) (mVar 2) [some (.d (gD s)), none, none] = .ok (.own (.lst (s.flatten.map .int))) [some (.d (gD s)), none, none] := by
    unfold mLc2
    rw [s_bind, show mfrz (mVar 0) [some (.d (gD s)), none, none] = .ok (.d (.tuple (s.map rowD))) [some (.d (gD s)), none, none] from rfl]
    exact comp2_ok rfl e
  rw [s_ret, h]
end K22

namespace KG
open PySem PySem.Spec PyProof.Rows L2
/-- a whole schedule -/
structure Whole (g : Gr) (c : Nat) (s : List (List Int)) : Prop where
  sch : Sch g c [] s
  all : ∀ k, 0 ≤ k → k < (g.length : Int) → k ∈ s.flatten
theorem Whole.ord {g : Gr} {c : Nat} {s : List (List Int)} (W : Whole g c s) : Ord g.length s.flatten where
  nd := by
    have := sch_nodup s [] W.sch List.nodup_nil
    simpa using this
  mem := fun k => ⟨sch_range s [] W.sch k, fun h => W.all k h.1 h.2⟩
theorem sch_step {g : Gr} {c : Nat} : ∀ (s : List (List Int)) (pre : List Int), Sch g c pre s → ∀ st ∈ s, st.length ≤ c ∧ st.Pairwise (· < ·) ∧ ∀ k ∈ st, 0 ≤ k ∧ k < (g.length : Int)
  | st :: s, pre, ⟨h1, h2, h3, h4, h5, h6⟩, q, m => by
    rcases List.mem_cons.mp m with rfl | m
    · exact ⟨h1, h2, h3⟩
    · exact sch_step s _ h6 q m
theorem sch_pred {g : Gr} {c : Nat} : ∀ (s : List (List Int)) (pre : List Int), Sch g c pre s → ∀ (i : Nat) (st : List Int), s[i]? = some st → ∀ k ∈ st, ∀ p ∈ rowOf g k, p ∈ pre ∨ ∃ j, j < i ∧ ∃ q, s[j]? = some q ∧ p ∈ q
  | st :: s, pre, ⟨h1, h2, h3, h4, h5, h6⟩, 0, q, e, k, mk, p, mp => by
    cases e
    exact .inl (h5 k mk p mp)
  | st :: s, pre, ⟨h1, h2, h3, h4, h5, h6⟩, i + 1, q, e, k, mk, p, mp => by
    rcases sch_pred s _ h6 i q e k mk p mp with z | ⟨j, lj, r, er, mr⟩
    · rcases List.mem_append.mp z with z | z
      · exact .inl z
      · exact .inr ⟨0, by omega, st, rfl, z⟩
    · exact .inr ⟨j + 1, by omega, r, er, mr⟩
/-- in which step each node stands -/
def tabS (s : List (List Int)) : List (Key × D) := s.zipIdx.flatMap fun p => p.1.map fun k => ((Sum.inl k : Key), PyData.int (p.2 : Nat))
theorem mem_tabS {s : List (List Int)} {i : Nat} {st : List Int} (h : s[i]? = some st) {k : Int} (m : k ∈ st) : ((Sum.inl k : Key), PyData.int (i : Nat)) ∈ tabS s :=
  List.mem_flatMap.mpr ⟨(st, i), List.mem_zipIdx_iff_getElem?.mpr h, List.mem_map.mpr ⟨k, m, rfl⟩⟩
theorem tabS_keys (s : List (List Int)) : ∀ n : Nat, ((s.zipIdx n).flatMap fun p => p.1.map fun k => (Sum.inl k : Key)) = s.flatten.map Sum.inl := by
  induction s with
  | nil => intro n; rfl
  | cons st s ih =>
    intro n
    rw [List.zipIdx_cons, List.flatMap_cons, ih, List.flatten_cons, List.map_append]
theorem valD_mem {kvs : List (Key × D)} (nd : (kvs.map (·.1)).Nodup) {k : Key} {d : D} (m : (k, d) ∈ kvs) : valD kvs k = some d := by
  induction kvs with
  | nil => cases m
  | cons p r ih =>
    rw [List.map_cons, List.nodup_cons] at nd
    unfold valD
    rw [List.find?_cons]
    rcases List.mem_cons.mp m with e | m
    · rw [← e]
      simp
    · have hne : ¬ p.1 = k := fun e => nd.1 (e ▸ List.mem_map.mpr ⟨(k, d), m, rfl⟩)
      simp only [hne, decide_false]
      exact ih nd.2 m
theorem tabS_map (s : List (List Int)) : (tabS s).map (·.1) = s.flatten.map Sum.inl := by
  unfold tabS
  rw [List.map_flatMap, ← tabS_keys s 0]
  congr 1
  funext p
  rw [List.map_map]
  rfl
theorem tabS_at {s : List (List Int)} (nd : s.flatten.Nodup) {i : Nat} {st : List Int} (h : s[i]? = some st) {k : Int} (m : k ∈ st) : valD (tabS s) (.inl k) = some (.int (i : Nat)) := by
  refine valD_mem ?_ (mem_tabS h m)
  rw [tabS_map]
  exact nd.map (Sum.inl : Int → Key) (fun a b hab e => hab (Sum.inl.inj e))
theorem sort_whole {n : Nat} {o : List Int} (O : Ord n o) : sortInts o = rngI n := by
  rw [sortInts_sortI O.nd]
  exact (sortI_uniq (rng_asc n) fun k => mem_rng.trans (O.mem k).symm).symm
end KG
namespace K22
open PySem PySem.Spec PyProof.Rows L2 KG
theorem chk_step {g : Gr} (G : GOk g) {i : Nat} {en : En} (h : en[i]? = some (some (.d (gD g)))) : mExpr (mCall F_check_graph (mCons (mVar i) (mNil))) en = .ok .nx en := by
  rw [s_expr, v_call (v_cons (var_d h) v_nil) (by rw [e_check]; exact check_ok G) rfl]
theorem len_g {s : Gr} {i : Nat} {en : En} (h : en[i]? = some (some (.d (gD s)))) : mfrz (mCallD (d1 dLen) (mCons (mVar i) (mNil))) en = .ok (.d (.int s.length)) en := by
  refine frz_d ?_
  rw [callD_ok (v_cons (var_d h) v_nil) (looks_ds _), s_d1]
  show dLen (.tuple (s.map rowD)) _ = _
  rw [s_len_t, List.length_map]
  rfl
theorem len_r {r : List Int} {i : Nat} {en : En} (h : en[i]? = some (some (.d (rowD r)))) : mfrz (mCallD (d1 dLen) (mCons (mVar i) (mNil))) en = .ok (.d (.int r.length)) en := by
  refine frz_d ?_
  rw [callD_ok (v_cons (var_d h) v_nil) (looks_ds _), s_d1]
  show dLen (.tuple (r.map .int)) _ = _
  rw [s_len_t, List.length_map]
  rfl
abbrev enS (g : Gr) (c : Int) (s : Gr) (s3 : Option SV) : En := [some (.d (gD g)), some (.d (.int c)), some (.d (gD s)), s3, none, none, none, none, none]
noncomputable abbrev mAll1 : M SV := mLc (.nm 4) [4] (mVar 2) (mYes) (mBV (mAndT (mB (mCall F_is_row (mCons (mVar 4) (mCons (mCallD (d1 dLen) (mCons (mVar 0) (mNil))) (mNil))))) (mB (mOp2 dLe (mCallD (d1 dLen) (mCons (mVar 4) (mNil))) (mVar 1)))))
noncomputable abbrev mTab : M SV := mDc2E (.tp [5, 4]) [5, 4, 6] (mVar 2) (mYes) (.nm 6) [6] (mVar 4) (mYes) (mVar 6) (mVar 5)
noncomputable abbrev mAll2 : M SV := mLc2E (.tp [6, 7]) [6, 7, 8] (mVar 0) (mYes) (.nm 8) [8] (mVar 7) (mYes) (mOp2 dLt (mOp2 dIx (mVar 3) (mVar 8)) (mOp2 dIx (mVar 3) (mVar 6)))
theorem sched_def : m_is_schedule = mSeq (mExpr (mCall F_check_graph (mCons (mVar 0) (mNil)))) (mSeq (mIfS (mNotT (mB (mIsi .tTuple (mVar 2)))) (mRet (mC (.bool false))) (mNx)) (mSeq (mIfS (mNotT (mB (mCallD (d1 dAll) (mCons mAll1 (mNil))))) (mRet (mC (.bool false))) (mNx)) (mSeq (mIfS (mB (mOp2 dNe (mCallD (d1 dSorted) (mCons (mCall F_nodes_of (mCons (mVar 2) (mNil))) (mNil))) (mLRange (mCallD (d1 dLen) (mCons (mVar 0) (mNil)))))) (mRet (mC (.bool false))) (mNx)) (mSeq (mSet 3 mTab) (mRet (mCallD (d1 dAll) (mCons mAll2 (mNil)))))))) := rfl
theorem all_true {en : En} {m : M SV} {bs : List Bool} (h : m en = .ok (.own (.lst (bs.map .bool))) en) (hb : ∀ b ∈ bs, b = true) : mCallD (d1 dAll) (mCons m (mNil)) en = .ok (.d (.bool true)) en := by
  rw [callD_ok (v_cons (frz_own h) v_nil) (looks_ds _), s_d1, dAll_bools]
  have : bs.all id = true := List.all_eq_true.mpr hb
  rw [this]
  rfl
theorem sched_ok {g : Gr} (G : GOk g) {c : Int} (c0 : 0 ≤ c) {s : List (List Int)} (W : Whole g c.toNat s) (hs : s.length ≤ 100) : F_is_schedule [gD g, .int c, gD s] = .ok (.d (.bool true)) [] := by
  have hz := sizeLine_ge
  have hg := G.few
  have O := W.ord
  have hol := O.len
  have hst := sch_step s [] W.sch
  have few : ∀ st ∈ s, st.length ≤ 62 := fun st m => by
    have := asc_len (hst st m).2.1 (hst st m).2.2
    omega
  -- all steps are rows
  have h1 : mAll1 (enS g c s none) = .ok (.own (.lst ((s.map fun _ => true).map .bool))) (enS g c s none) := by
    show mLc _ _ _ _ _ _ = _
    rw [s_lc, show mfrz (mVar 2) (enS g c s none) = .ok (.d (.tuple (s.map rowD))) (enS g c s none) from rfl]
    show mComp (.nm 4) [4] mYes _ (s.map rowD) (enS g c s none) = _
    rw [comp_emb (f := rowD) (p := fun _ => true) (g := fun _ => .bool true) s rfl (fun st m => ?_) (by omega)]
    · rw [List.filter_eq_self.mpr fun _ _ => rfl, List.map_map]
      rfl
    · obtain ⟨q1, q2, q3⟩ := hst st m
      refine ⟨[some (.d (gD g)), some (.d (.int c)), some (.d (gD s)), none, some (.d (rowD st)), none, none, none, none], rfl, rfl, fun _ => keep_d ?_⟩
      have a1 : mB (mCall F_is_row (mCons (mVar 4) (mCons (mCallD (d1 dLen) (mCons (mVar 0) (mNil))) (mNil)))) [some (.d (gD g)), some (.d (.int c)), some (.d (gD s)), none, some (.d (rowD st)), none, none, none, none] = .ok true [some (.d (gD g)), some (.d (.int c)), some (.d (gD s)), none, some (.d (rowD st)), none, none, none, none] := by
        rw [s_B, v_call (v_cons (var_d rfl) (v_cons (len_g rfl) v_nil)) (by rw [e_row]; exact row_ok (few st m) q2 q3) rfl]
      have a2 : mB (mOp2 dLe (mCallD (d1 dLen) (mCons (mVar 4) (mNil))) (mVar 1)) [some (.d (gD g)), some (.d (.int c)), some (.d (gD s)), none, some (.d (rowD st)), none, none, none, none] = .ok true [some (.d (gD g)), some (.d (.int c)), some (.d (gD s)), none, some (.d (rowD st)), none, none, none, none] := by
        rw [s_B, op2_ok (len_r rfl) (var_d rfl) rfl rfl, s_dLe_i, decide_eq_true (by omega)]
        rfl
      rw [s_BV, and_yes a1, a2]
  have t1 : mNotT (mB (mCallD (d1 dAll) (mCons mAll1 (mNil)))) (enS g c s none) = .ok false (enS g c s none) := notB (all_true h1 fun b m => by
    obtain ⟨_, _, rfl⟩ := List.mem_map.mp m
    rfl)
  -- all nodes
  have t2 : mB (mOp2 dNe (mCallD (d1 dSorted) (mCons (mCall F_nodes_of (mCons (mVar 2) (mNil))) (mNil))) (mLRange (mCallD (d1 dLen) (mCons (mVar 0) (mNil))))) (enS g c s none) = .ok false (enS g c s none) := by
    have b1 : mfrz (mCall F_nodes_of (mCons (mVar 2) (mNil))) (enS g c s none) = .ok (.d (.list (s.flatten.map .int))) (enS g c s none) :=
      frz_own (call_own (v_cons (var_d rfl) v_nil) (looksA_ds _) (nodes_ok (by omega)) (flats_ints _))
    have b2 : mfrz (mCallD (d1 dSorted) (mCons (mCall F_nodes_of (mCons (mVar 2) (mNil))) (mNil))) (enS g c s none) = .ok (.d (.list ((rngI g.length).map .int))) (enS g c s none) := by
      refine frz_own ?_
      rw [callD_ok (v_cons b1 v_nil) (looks_ds _), s_d1, s_dSorted, sortD_ints, sort_whole O]
    have b3 : mfrz (mLRange (mCallD (d1 dLen) (mCons (mVar 0) (mNil)))) (enS g c s none) = .ok (.d (.list ((rngI g.length).map .int))) (enS g c s none) := by
      refine frz_own ?_
      rw [s_lrange, len_g rfl]
      dsimp only
      rw [s_look_d]
      dsimp only
      rw [if_pos ⟨by omega, by omega⟩, Int.toNat_natCast, rngD_rng]
    rw [s_B, op2_ok b2 b3 rfl rfl, s_dNe, eq_ints, decide_eq_true rfl]
    rfl
  -- the table
  have h3 : mSet 3 mTab (enS g c s none) = .ok .nx (enS g c s (some (.own (.dct (tabS s))))) := by
    refine (set_own (o := .dct (tabS s)) (e := enS g c s none) ?_).trans rfl
    show mDc2E _ _ _ _ _ _ _ _ _ _ _ = _
    unfold mDc2E
    rw [s_bind, show mfrz (mVar 2) (enS g c s none) = .ok (.d (.tuple (s.map rowD))) (enS g c s none) from rfl]
    dsimp only
    have e := dcGo2_emb (f := fun p : List Int × Nat => PyData.tuple [.int p.2, rowD p.1]) (h := PyData.int) (tg := .tp [5, 4]) (tg1 := .nm 6) (vs1 := [6]) (mi1 := mVar 4) (mk := mVar 6) (mv := mVar 5) (en0 := enS g c s none) (ys := fun p : List Int × Nat => p.1) (kk := fun k => k) (gg := fun p _ => .int (p.2 : Nat)) s.zipIdx [] (fun p m =>
      ⟨[some (.d (gD g)), some (.d (.int c)), some (.d (gD s)), none, some (.d (rowD p.1)), some (.d (.int p.2)), none, none, none], rfl, rfl, fun y my => ⟨[some (.d (gD g)), some (.d (.int c)), some (.d (gD s)), none, some (.d (rowD p.1)), some (.d (.int p.2)), some (.d (.int y)), none, none], rfl, rfl, rfl⟩⟩)
      (by
        rw [List.map_nil, List.nil_append, tabS_keys s 0]
        exact O.nd.map (Sum.inl : Int → Key) (fun a b hab e => hab (Sum.inl.inj e))) (by
        have : (s.zipIdx.flatMap fun p : List Int × Nat => p.1) = s.flatten := by
          rw [List.flatMap_def, List.zipIdx_map_fst]
        rw [this]
        simp only [List.length_nil]
        omega)
    rw [enum_emb]
    exact dcomp2_ok rfl e
  -- each behind what it comes behind
  have h4 : mAll2 (enS g c s (some (.own (.dct (tabS s))))) = .ok (.own (.lst ((g.zipIdx.flatMap fun p => p.1.map fun _ => true).map .bool))) (enS g c s (some (.own (.dct (tabS s))))) := by
    show mLc2E _ _ _ _ _ _ _ _ _ _ = _
    unfold mLc2E
    rw [s_bind, show mfrz (mVar 0) (enS g c s (some (.own (.dct (tabS s))))) = .ok (.d (.tuple (g.map rowD))) (enS g c s (some (.own (.dct (tabS s))))) from rfl]
    dsimp only
    have e := compGo2_emb (f := fun p : List Int × Nat => PyData.tuple [.int p.2, rowD p.1]) (h := PyData.int) (tg := .tp [6, 7]) (tg1 := .nm 8) (vs1 := [8]) (mc := mYes) (mc1 := mYes) (mi1 := mVar 7) (me := mOp2 dLt (mOp2 dIx (mVar 3) (mVar 8)) (mOp2 dIx (mVar 3) (mVar 6))) (en0 := enS g c s (some (.own (.dct (tabS s))))) (ys := fun p : List Int × Nat => p.1) (g := fun _ _ => .bool true) g.zipIdx [] (fun p m => by
      obtain ⟨r, i⟩ := p
      have hi : g[i]? = some r := List.mem_zipIdx_iff_getElem?.mp m
      have li : i < g.length := (List.getElem?_eq_some_iff.mp hi).1
      have hrow : rowOf g (i : Int) = r := by
        unfold rowOf
        rw [List.getD_eq_getElem?_getD, Int.toNat_natCast, hi]
        rfl
      refine ⟨[some (.d (gD g)), some (.d (.int c)), some (.d (gD s)), some (.own (.dct (tabS s))), none, none, some (.d (.int i)), some (.d (rowD r)), none], rfl, rfl, rfl, fun y my => ⟨[some (.d (gD g)), some (.d (.int c)), some (.d (gD s)), some (.own (.dct (tabS s))), none, none, some (.d (.int i)), some (.d (rowD r)), some (.d (.int y))], rfl, rfl, keep_d ?_⟩⟩
      have mi := W.all (i : Int) (by omega) (by omega)
      obtain ⟨st, mst, mk⟩ := List.mem_flatten.mp mi
      obtain ⟨a, ha⟩ := List.mem_iff_getElem?.mp mst
      have hp := sch_pred s [] W.sch a st ha (i : Int) mk y (by rw [hrow]; exact my)
      rcases hp with z | ⟨b, lb, q, hq, mq⟩
      · cases z
      · have v1 := tabS_at O.nd ha mk
        have v2 := tabS_at O.nd hq mq
        simp only [s_op2, s_frz, s_var, List.getElem?_cons_zero, List.getElem?_cons_succ, s_look_bor, s_look_d, s_dIx, ix_dctI, v1, v2, s_dLt_i, s_pure]
        congr 3
        exact decide_eq_true (by omega)) (by
        have : (g.zipIdx.flatMap fun p : List Int × Nat => p.1) = g.flatten := by
          rw [List.flatMap_def, List.zipIdx_map_fst]
        rw [this, List.length_nil]
        have : g.flatten.length ≤ 62 * g.length := by
          have key : ∀ (h : Gr), (∀ r ∈ h, r.length ≤ 62) → h.flatten.length ≤ 62 * h.length := fun h => by
            induction h with
            | nil => intro _; simp
            | cons r h ih =>
              intro q
              have := ih fun x m => q x (List.mem_cons_of_mem _ m)
              have := q r List.mem_cons_self
              rw [List.flatten_cons, List.length_append, List.length_cons]
              omega
          refine key g fun r m => ?_
          obtain ⟨i, hi⟩ := List.mem_iff_getElem?.mp m
          have li : i < g.length := (List.getElem?_eq_some_iff.mp hi).1
          have := asc_len (G.asc r m) (G.low i r hi)
          omega
        omega)
    rw [List.nil_append] at e
    rw [enum_emb, comp2_ok rfl e, List.map_flatMap]
    congr 4
    funext p
    rw [List.map_map]
    rfl
  have h5 : mCallD (d1 dAll) (mCons mAll2 (mNil)) (enS g c s (some (.own (.dct (tabS s))))) = .ok (.d (.bool true)) (enS g c s (some (.own (.dct (tabS s))))) := all_true h4 fun b m => by
    obtain ⟨p, _, mb⟩ := List.mem_flatMap.mp m
    obtain ⟨_, _, rfl⟩ := List.mem_map.mp mb
    rfl
  have t0 : mNotT (mB (mIsi .tTuple (mVar 2))) (enS g c s none) = .ok false (enS g c s none) := rfl
  refine run_ok rfl (e := enS g c s (some (.own (.dct (tabS s))))) ?_
  rw [sched_def]
  show mSeq _ _ (enS g c s none) = _
  rw [seq_ok (chk_step G rfl), seq_ok (ifS_nx t0), seq_ok (ifS_nx t1), seq_ok (ifS_nx t2), seq_ok h3, s_ret, h5]
end K22

namespace K22
open PySem PySem.Spec PyProof.Rows L2 KG
theorem e_free : F_is_free = KG.F_is_free := rfl
theorem e_lfree : F__law_free = KG.F__law_free := rfl
theorem free_nodes_ok {g : Gr} (G : GOk g) (done : List Int) : F_free_nodes [gD g, dctD (doneK done)] = .ok (.own (.lst ((lwFree g done).map .int))) [] := by
  have hz := sizeLine_ge
  have hg := G.few
  have hc : mComp (.nm 2) [2] (mAndT (mB (mOp2 dNinK (mVar 2) (mVar 1))) (mB (mCall F_is_free (mCons (mVar 0) (mCons (mVar 1) (mCons (mVar 2) (mNil))))))) (mVar 2) ((rngI g.length).map .int) [some (.d (gD g)), some (.d (dctD (doneK done))), none] = .ok (.own (.lst ((lwFree g done).map .int))) [some (.d (gD g)), some (.d (dctD (doneK done))), none] := by
    refine comp_emb (f := PyData.int) (p := fun k => !decide (k ∈ done) && isFr g done k) (g := PyData.int) (rngI g.length) rfl (fun k m => ?_) (by rw [rng_len]; omega)
    obtain ⟨h0, h1⟩ := mem_rng.mp m
    refine ⟨[some (.d (gD g)), some (.d (dctD (doneK done))), some (.d (.int k))], rfl, ?_, fun _ => rfl⟩
    have a1 : mB (mOp2 dNinK (mVar 2) (mVar 1)) [some (.d (gD g)), some (.d (dctD (doneK done))), some (.d (.int k))] = .ok (!decide (k ∈ done)) [some (.d (gD g)), some (.d (dctD (doneK done))), some (.d (.int k))] := by
      rw [s_B, op2_ok (a := .d (.int k)) (b := .d (dctD (doneK done))) (e2 := [some (.d (gD g)), some (.d (dctD (doneK done))), some (.d (.int k))]) rfl rfl rfl rfl, s_dNinK, inK_done]
    have a2 : mB (mCall F_is_free (mCons (mVar 0) (mCons (mVar 1) (mCons (mVar 2) (mNil))))) [some (.d (gD g)), some (.d (dctD (doneK done))), some (.d (.int k))] = .ok (isFr g done k) [some (.d (gD g)), some (.d (dctD (doneK done))), some (.d (.int k))] := by
      rw [s_B, v_call (v_cons (var_d rfl) (v_cons (var_d rfl) (v_cons (var_d rfl) v_nil))) (by rw [e_free]; exact free_ok G h0 h1) rfl]
    cases q : decide (k ∈ done) with
    | true =>
      rw [q] at a1
      rw [s_andT, a1]
      rfl
    | false =>
      rw [q] at a1
      exact (and_yes a1).trans a2
  refine run_own rfl (e := [some (.d (gD g)), some (.d (dctD (doneK done))), none]) ?_
  have hl : mCons (mCallD (d1 dLen) (mCons (mVar 0) (mNil))) (mNil) [some (.d (gD g)), some (.d (dctD (doneK done))), none] = .ok [.d (.int g.length)] [some (.d (gD g)), some (.d (dctD (doneK done))), none] := v_cons (ds := []) (len_g rfl) v_nil
  unfold m_free_nodes
  show mRet _ [some (.d (gD g)), some (.d (dctD (doneK done))), none] = _
  rw [s_ret, lcR_run hl (by omega) (by omega), Int.toNat_natCast, rngD_rng, hc]
abbrev enG (g : Gr) (c : Int) (s : Gr) (done : List Int) (s4 : Option SV) : En := [some (.d (gD g)), some (.d (.int c)), some (.d (gD s)), some (.own (.dct (doneK done))), s4, none]
noncomputable abbrev gT : M Bool := mOrT (mB (mOp2 dEq (mCallD (d1 dLen) (mCons (mVar 4) (mNil))) (mC (.int 0)))) (mAndT (mB (mOp2 dLt (mCallD (d1 dLen) (mCons (mVar 4) (mNil))) (mVar 1))) (mB (mOp2 dLt (mCallD (d1 dLen) (mCons (mVar 4) (mNil))) (mCallD (d1 dLen) (mCons (mCall F_free_nodes (mCons (mVar 0) (mCons (mVar 3) (mNil)))) (mNil))))))
noncomputable abbrev gB : M Ct := mSeq (mIfS gT (mRet (mC (.bool false))) (mNx)) (mUpd 3 (mDc (.nm 5) [5] (mVar 4) (mYes) (mVar 5) (mC (.bool true))))
theorem gB_ok {g : Gr} (G : GOk g) {c : Int} (c0 : 0 ≤ c) (s : Gr) {done st : List Int} (hn : st ≠ []) (hf : st.length < c.toNat → st.length = (lwFree g done).length) (nd : (done ++ st).Nodup) (hl : done.length + st.length ≤ 1000) :
    gB (enG g c s done (some (.d (rowD st)))) = .ok .nx (enG g c s (done ++ st) (some (.d (rowD st)))) := by
  have hz := sizeLine_ge
  have hsl : 0 < st.length := List.length_pos_iff.mpr hn
  have t : gT (enG g c s done (some (.d (rowD st)))) = .ok false (enG g c s done (some (.d (rowD st)))) := by
    have a1 : mB (mOp2 dEq (mCallD (d1 dLen) (mCons (mVar 4) (mNil))) (mC (.int 0))) (enG g c s done (some (.d (rowD st)))) = .ok false (enG g c s done (some (.d (rowD st)))) := by
      rw [s_B, op2_ok (len_r rfl) (b := .d (.int 0)) (e2 := enG g c s done (some (.d (rowD st)))) rfl rfl rfl, s_dEq, s_eq_i, decide_eq_false (by omega)]
    have a2 : mB (mOp2 dLt (mCallD (d1 dLen) (mCons (mVar 4) (mNil))) (mVar 1)) (enG g c s done (some (.d (rowD st)))) = .ok (decide ((st.length : Int) < c)) (enG g c s done (some (.d (rowD st)))) := by
      rw [s_B, op2_ok (len_r rfl) (var_d rfl) rfl rfl, s_dLt_i]
      rfl
    unfold gT
    rw [or_no a1, s_andT, a2]
    by_cases q : (st.length : Int) < c
    · rw [decide_eq_true q]
      dsimp only
      have e := hf (by omega)
      have b1 : mfrz (mCall F_free_nodes (mCons (mVar 0) (mCons (mVar 3) (mNil)))) (enG g c s done (some (.d (rowD st)))) = .ok (.d (.list ((lwFree g done).map .int))) (enG g c s done (some (.d (rowD st)))) := by
        have la : looksA (enG g c s done (some (.d (rowD st)))) [.d (gD g), .bor 3] = some [gD g, dctD (doneK done)] := by
          have : lookA (enG g c s done (some (.d (rowD st)))) (.bor 3) = some (dctD (doneK done)) := by
            show (if ((doneK done).all fun p => isAt p.2) = true then some (dctD (doneK done)) else none) = _
            rw [if_pos (doneK_at done)]
          rw [s_looksA_cons, s_lookA_d, s_looksA_cons, this]
          rfl
        exact frz_own (call_own (cons_ok (a := .d (gD g)) (e2 := enG g c s done (some (.d (rowD st)))) rfl (cons_ok (a := .bor 3) (e2 := enG g c s done (some (.d (rowD st)))) rfl s_nil rfl) rfl) la (free_nodes_ok G done) (flats_ints _))
      have b2 : mfrz (mCallD (d1 dLen) (mCons (mCall F_free_nodes (mCons (mVar 0) (mCons (mVar 3) (mNil)))) (mNil))) (enG g c s done (some (.d (rowD st)))) = .ok (.d (.int ((lwFree g done).length : Nat))) (enG g c s done (some (.d (rowD st)))) := by
        refine frz_d ?_
        rw [callD_ok (v_cons b1 v_nil) (looks_ds _), s_d1, s_len_l, List.length_map]
        rfl
      rw [s_B, op2_ok (len_r rfl) b2 rfl rfl, s_dLt_i, decide_eq_false (by omega)]
      rfl
    · rw [decide_eq_false q]
  have hm : mDc (.nm 5) [5] (mVar 4) (mYes) (mVar 5) (mC (.bool true)) (enG g c s done (some (.d (rowD st)))) = .ok (.own (.dct (doneK st))) (enG g c s done (some (.d (rowD st)))) := by
    have z := dcGo_done (mk := mVar 5) (mv := mC (.bool true)) (tg := .nm 5) (en0 := enG g c s done (some (.d (rowD st)))) (fun k => ⟨[some (.d (gD g)), some (.d (.int c)), some (.d (gD s)), some (.own (.dct (doneK done))), some (.d (rowD st)), some (.d (.int k))], rfl, rfl, rfl⟩) st [] (by rw [List.nil_append]; exact (List.nodup_append.mp nd).2.1) (by simp; omega)
    rw [List.nil_append] at z
    rw [s_dc, show mfrz (mVar 4) (enG g c s done (some (.d (rowD st)))) = .ok (.d (.tuple (st.map .int))) (enG g c s done (some (.d (rowD st)))) from rfl]
    exact dc_ok rfl z
  have hl2 : (doneK done).length + (doneK st).length ≤ sizeLine := by
    unfold doneK
    rw [List.length_map, List.length_map]
    omega
  unfold gB
  rw [seq_ok (ifS_nx t), s_upd]
  simp only [List.getElem?_cons_zero, List.getElem?_cons_succ, hm, hl2, if_true, merge_done _ _ nd]
  rfl
theorem gLoop {g : Gr} (G : GOk g) {c : Int} (c0 : 0 ≤ c) (w : Gr) : ∀ (s : List (List Int)) (done : List Int) (s4 : Option SV), Grd g c.toNat done s → (done ++ s.flatten).Nodup → done.length + s.flatten.length ≤ 1000 → ∃ s4', forGo (.nm 4) none gB (s.map rowD) (enG g c w done s4) = .ok .nx (enG g c w (done ++ s.flatten) s4')
  | [], done, s4, _, _, _ => ⟨s4, by rw [List.flatten_nil, List.append_nil]; exact for_nil rfl⟩
  | st :: s, done, s4, ⟨h1, h2, h3⟩, nd, hl => by
    rw [List.flatten_cons, ← List.append_assoc] at nd
    rw [List.flatten_cons, List.length_append] at hl
    obtain ⟨s4', h⟩ := gLoop G c0 w s (done ++ st) (some (.d (rowD st))) h3 nd (by rw [List.length_append]; omega)
    refine ⟨s4', ?_⟩
    rw [List.map_cons, for_step rfl (e1 := enG g c w done (some (.d (rowD st)))) rfl (gB_ok G c0 w h1 h2 (List.nodup_append.mp nd).1 (by omega)), h, List.flatten_cons, List.append_assoc]
theorem greedy_ok {g : Gr} (G : GOk g) {c : Int} (c0 : 0 ≤ c) {s : List (List Int)} (W : Whole g c.toNat s) (hs : s.length ≤ 100) (hg : Grd g c.toNat [] s) : F_is_greedy [gD g, .int c, gD s] = .ok (.d (.bool true)) [] := by
  have O := W.ord
  have hol := O.len
  have hg62 := G.few
  obtain ⟨s4, h⟩ := gLoop G c0 s s [] none hg (by simpa using O.nd) (by simp only [List.length_nil]; omega)
  have t : mNotT (mB (mCall F_is_schedule (mCons (mVar 0) (mCons (mVar 1) (mCons (mVar 2) (mNil)))))) [some (.d (gD g)), some (.d (.int c)), some (.d (gD s)), none, none, none] = .ok false [some (.d (gD g)), some (.d (.int c)), some (.d (gD s)), none, none, none] :=
    notB (v_call (v_cons (var_d rfl) (v_cons (var_d rfl) (v_cons (var_d rfl) v_nil))) (sched_ok G c0 W hs) rfl)
  have h1 : mSet 3 (mpure (.own (.dct []))) [some (.d (gD g)), some (.d (.int c)), some (.d (gD s)), none, none, none] = .ok .nx (enG g c s [] none) := rfl
  have h2 : mFor (.nm 4) [] (mVar 2) gB (enG g c s [] none) = .ok .nx (enG g c s ([] ++ s.flatten) s4) := by
    rw [s_for, show mfrz (mVar 2) (enG g c s [] none) = .ok (.d (.tuple (s.map rowD))) (enG g c s [] none) from rfl]
    exact h
  refine run_ok rfl (e := enG g c s ([] ++ s.flatten) s4) ?_
  unfold m_is_greedy
  show mSeq _ _ [some (.d (gD g)), some (.d (.int c)), some (.d (gD s)), none, none, none] = _
  rw [seq_ok (ifS_nx t), seq_ok h1, seq_ok h2]
  rfl
/-! ### the law's own -/
theorem app_list {en : En} {i j : Nat} {a b : List Int} (h1 : en[i]? = some (some (.own (.lst (a.map .int))))) (h2 : en[j]? = some (some (.d (rowD b)))) (hl : a.length + b.length ≤ 1000) : mOp2 dAdd (mVar i) (mCallD (d1 dList) (mCons (mVar j) (mNil))) en = .ok (.own (.lst ((a ++ b).map .int))) en := by
  have hz := sizeLine_ge
  have f1 : mfrz (mVar i) en = .ok (.bor i) en := by simp only [s_frz, s_var, h1]
  have f2 : mfrz (mCallD (d1 dList) (mCons (mVar j) (mNil))) en = .ok (.d (.list (b.map .int))) en := by
    refine frz_own ?_
    rw [callD_ok (v_cons (var_d h2) v_nil) (looks_ds _), s_d1]
    rfl
  have f3 : look en (.bor i) = some (.list (a.map .int)) := by rw [s_look_bor, h1]
  rw [op2_ok f1 f2 f3 rfl, s_add_l, if_pos (by rw [List.length_map, List.length_map]; omega), ← List.map_append]
abbrev enH (g : Gr) (c : Int) (s : Gr) (done : List Int) (s4 : Option SV) : En := [some (.d (gD g)), some (.d (.int c)), some (.d (gD s)), some (.own (.lst (done.map .int))), s4]
noncomputable abbrev hT : M Bool := mOrT (mB (mOp2 dEq (mCallD (d1 dLen) (mCons (mVar 4) (mNil))) (mC (.int 0)))) (mB (mOp2 dLt (mCallD (d1 dLen) (mCons (mVar 4) (mNil))) (mCallD dMin3 (mCons (mC (.int 6)) (mCons (mVar 1) (mCons (mCallD (d1 dLen) (mCons (mCall F__law_free (mCons (mVar 0) (mCons (mVar 3) (mNil)))) (mNil))) (mNil)))))))
noncomputable abbrev hB : M Ct := mSeq (mIfS hT (mRet (mC (.bool false))) (mNx)) (mSet 3 (mOp2 dAdd (mVar 3) (mCallD (d1 dList) (mCons (mVar 4) (mNil)))))
theorem min3_le (i j k : Int) : minI3 i j k ≤ j ∧ minI3 i j k ≤ k ∧ minI3 i j k ≤ i := by
  unfold minI3
  refine ⟨?_, ?_, ?_⟩ <;> (split <;> split <;> omega)
theorem lfree_step {g : Gr} (G : GOk g) {done : List Int} {en : En} {i j : Nat} (h0 : en[i]? = some (some (.d (gD g)))) (h3 : en[j]? = some (some (.own (.lst (done.map .int))))) : mCall F__law_free (mCons (mVar i) (mCons (mVar j) (mNil))) en = .ok (.own (.lst ((lwFree g done).map .int))) en := by
  have f1 : mfrz (mVar j) en = .ok (.bor j) en := by simp only [s_frz, s_var, h3]
  have f2 : lookA en (.bor j) = some (.list (done.map .int)) := by rw [s_lookA_bor, h3]
  have f3 : lentOk en (.bor j) = true := by rw [s_lent_bor, h3]
  refine call_own (cons_ok (var_d h0) (cons_ok f1 s_nil f3) rfl) ?_ (by rw [e_lfree]; exact lfree_ok G done) (flats_ints _)
  rw [s_looksA_cons, s_lookA_d, s_looksA_cons, f2]
  rfl
theorem hB_ok {g : Gr} (G : GOk g) {c : Int} (c0 : 0 ≤ c) (s : Gr) {done st : List Int} (hn : st ≠ []) (hf : st.length < c.toNat → st.length = (lwFree g done).length) (hl : done.length + st.length ≤ 1000) :
    hB (enH g c s done (some (.d (rowD st)))) = .ok .nx (enH g c s (done ++ st) (some (.d (rowD st)))) := by
  have hsl : 0 < st.length := List.length_pos_iff.mpr hn
  have t : hT (enH g c s done (some (.d (rowD st)))) = .ok false (enH g c s done (some (.d (rowD st)))) := by
    have a1 : mB (mOp2 dEq (mCallD (d1 dLen) (mCons (mVar 4) (mNil))) (mC (.int 0))) (enH g c s done (some (.d (rowD st)))) = .ok false (enH g c s done (some (.d (rowD st)))) := by
      rw [s_B, op2_ok (len_r rfl) (b := .d (.int 0)) (e2 := enH g c s done (some (.d (rowD st)))) rfl rfl rfl, s_dEq, s_eq_i, decide_eq_false (by omega)]
    have b2 : mfrz (mCallD (d1 dLen) (mCons (mCall F__law_free (mCons (mVar 0) (mCons (mVar 3) (mNil)))) (mNil))) (enH g c s done (some (.d (rowD st)))) = .ok (.d (.int ((lwFree g done).length : Nat))) (enH g c s done (some (.d (rowD st)))) := by
      refine frz_d ?_
      rw [callD_ok (v_cons (frz_own (lfree_step G rfl rfl)) v_nil) (looks_ds _), s_d1, s_len_l, List.length_map]
      rfl
    have b3 : mfrz (mCallD dMin3 (mCons (mC (.int 6)) (mCons (mVar 1) (mCons (mCallD (d1 dLen) (mCons (mCall F__law_free (mCons (mVar 0) (mCons (mVar 3) (mNil)))) (mNil))) (mNil))))) (enH g c s done (some (.d (rowD st)))) = .ok (.d (.int (minI3 6 c (lwFree g done).length))) (enH g c s done (some (.d (rowD st)))) := by
      refine frz_d ?_
      rw [callD_ok (v_cons (d := .int 6) rfl (v_cons (var_d rfl) (v_cons b2 v_nil))) (looks_ds _)]
      rfl
    have := min3_le 6 c (lwFree g done).length
    unfold hT
    rw [or_no a1, s_B, op2_ok (len_r rfl) b3 rfl rfl, s_dLt_i, decide_eq_false (by
      intro z
      have e := hf (by omega)
      omega)]
    rfl
  unfold hB
  rw [seq_ok (ifS_nx t), set_own (app_list (a := done) (b := st) rfl rfl hl)]
  rfl
theorem hLoop {g : Gr} (G : GOk g) {c : Int} (c0 : 0 ≤ c) (w : Gr) : ∀ (s : List (List Int)) (done : List Int) (s4 : Option SV), Grd g c.toNat done s → done.length + s.flatten.length ≤ 1000 → ∃ s4', forGo (.nm 4) none hB (s.map rowD) (enH g c w done s4) = .ok .nx (enH g c w (done ++ s.flatten) s4')
  | [], done, s4, _, _ => ⟨s4, by rw [List.flatten_nil, List.append_nil]; exact for_nil rfl⟩
  | st :: s, done, s4, ⟨h1, h2, h3⟩, hl => by
    rw [List.flatten_cons, List.length_append] at hl
    obtain ⟨s4', h⟩ := hLoop G c0 w s (done ++ st) (some (.d (rowD st))) h3 (by rw [List.length_append]; omega)
    refine ⟨s4', ?_⟩
    rw [List.map_cons, for_step rfl (e1 := enH g c w done (some (.d (rowD st)))) rfl (hB_ok G c0 w h1 h2 (by omega)), h, List.flatten_cons, List.append_assoc]
theorem lgreedy_ok {g : Gr} (G : GOk g) {c : Int} (c0 : 0 ≤ c) {s : List (List Int)} (hl : s.flatten.length ≤ 1000) (hg : Grd g c.toNat [] s) : F__law_is_greedy [gD g, .int c, gD s] = .ok (.d (.bool true)) [] := by
  obtain ⟨s4, h⟩ := hLoop G c0 s s [] none hg (by simp only [List.length_nil]; omega)
  have h1 : mSet 3 (mLst (mNil)) [some (.d (gD g)), some (.d (.int c)), some (.d (gD s)), none, none] = .ok .nx (enH g c s [] none) := by
    simp only [s_set, s_lst, s_nil, s_looks_nil, List.length_nil, List.all_nil, Nat.zero_le, and_self, if_true]
    rfl
  have h2 : mFor (.nm 4) [3] (mVar 2) hB (enH g c s [] none) = .ok .nx (enH g c s ([] ++ s.flatten) s4) := by
    rw [s_for, show mfrz (mVar 2) (enH g c s [] none) = .ok (.d (.tuple (s.map rowD))) (enH g c s [] none) from rfl]
    exact h
  refine run_ok rfl (e := enH g c s ([] ++ s.flatten) s4) ?_
  unfold m__law_is_greedy
  show mSeq _ _ [some (.d (gD g)), some (.d (.int c)), some (.d (gD s)), none, none] = _
  rw [seq_ok h1, seq_ok h2]
  rfl
end K22

namespace K22
open PySem PySem.Spec PyProof.Rows L2 KG
abbrev enQ (g : Gr) (c : Int) (s : Gr) (done : List Int) (s4 s5 : Option SV) : En := [some (.d (gD g)), some (.d (.int c)), some (.d (gD s)), some (.own (.lst (done.map .int))), s4, s5, none]
noncomputable abbrev xk : M SV := mOp2 dIx (mVar 4) (mVar 5)
noncomputable abbrev q1 : M Bool := mOrT (mNotT (mB (mCall F__law_whole (mCons xk (mNil))))) (mOrT (mB (mOp2 dLt xk (mC (.int 0)))) (mOrT (mB (mOp2 dGe xk (mCallD (d1 dLen) (mCons (mVar 0) (mNil))))) (mAndT (mB (mOp2 dGt (mVar 5) (mC (.int 0)))) (mB (mOp2 dGe (mOp2 dIx (mVar 4) (mOp2 dSub (mVar 5) (mC (.int 1)))) xk)))))
noncomputable abbrev q2 : M Bool := mOrT (mB (mOp2 dIn xk (mVar 3))) (mB (mOp2 dNe (mLc (.nm 6) [6] (mOp2 dIx (mVar 0) xk) (mB (mOp2 dNin (mVar 6) (mVar 3))) (mVar 6)) (mLst (mNil))))
noncomputable abbrev qI : M Ct := mSeq (mIfS q1 (mRet (mC (.bool false))) (mNx)) (mIfS q2 (mRet (mC (.bool false))) (mNx))
theorem whole_ok (x : Int) : F__law_whole [.int x] = .ok (.d (.bool true)) [] := rfl
theorem qI_ok {g : Gr} (G : GOk g) (c : Int) (s : Gr) {done st : List Int} (asc : st.Pairwise (· < ·)) (low : ∀ k ∈ st, 0 ≤ k ∧ k < (g.length : Int)) (new : ∀ k ∈ st, k ∉ done) (pre : ∀ k ∈ st, ∀ p ∈ rowOf g k, p ∈ done) {i : Nat} (hi : i < st.length) :
    qI (enQ g c s done (some (.d (rowD st))) (some (.d (.int i)))) = .ok .nx (enQ g c s done (some (.d (rowD st))) (some (.d (.int i)))) := by
  have hz := sizeLine_ge
  generalize hx : st[i] = x
  have mx : x ∈ st := hx ▸ List.getElem_mem hi
  obtain ⟨x0, x1⟩ := low x mx
  generalize hen : enQ g c s done (some (.d (rowD st))) (some (.d (.int i))) = en
  have v0 : en[0]? = some (some (.d (gD g))) := by subst hen; rfl
  have v3 : mfrz (mVar 3) en = .ok (.bor 3) en := by subst hen; rfl
  have l3 : look en (.bor 3) = some (.list (done.map .int)) := by subst hen; rfl
  have v4 : en[4]? = some (some (.d (rowD st))) := by subst hen; rfl
  have v5 : en[5]? = some (some (.d (.int i))) := by subst hen; rfl
  have at_ : ∀ (j : Nat) (hj : j < st.length), ixD (rowD st) (.int (j : Nat)) = some (.int st[j]) := fun j hj => by
    show atI (st.map PyData.int) (j : Nat) = _
    exact atI_at (by omega) (by rw [Int.toNat_natCast, List.getElem?_map, List.getElem?_eq_getElem hj]; rfl)
  have fx : mfrz xk en = .ok (.d (.int x)) en := by
    refine frz_d ?_
    show mOp2 dIx (mVar 4) (mVar 5) en = _
    rw [op2_ok (var_d v4) (var_d v5) rfl rfl, s_dIx, at_ i hi, hx]
  have b1 : mNotT (mB (mCall F__law_whole (mCons xk (mNil)))) en = .ok false en := notB (v_call (v_cons fx v_nil) (whole_ok x) rfl)
  have b2 : mB (mOp2 dLt xk (mC (.int 0))) en = .ok false en := by
    rw [s_B, op2_ok fx (b := .d (.int 0)) (e2 := en) rfl rfl rfl, s_dLt_i, decide_eq_false (by omega)]
    rfl
  have b3 : mB (mOp2 dGe xk (mCallD (d1 dLen) (mCons (mVar 0) (mNil)))) en = .ok false en := by
    rw [s_B, op2_ok fx (len_g v0) rfl rfl, s_dGe_i, decide_eq_false (by omega)]
    rfl
  have b4 : mAndT (mB (mOp2 dGt (mVar 5) (mC (.int 0)))) (mB (mOp2 dGe (mOp2 dIx (mVar 4) (mOp2 dSub (mVar 5) (mC (.int 1)))) xk)) en = .ok false en := by
    have c1 : mB (mOp2 dGt (mVar 5) (mC (.int 0))) en = .ok (decide ((0 : Int) < (i : Nat))) en := by
      rw [s_B, op2_ok (var_d v5) (b := .d (.int 0)) (e2 := en) rfl rfl rfl, s_dGt_i]
      rfl
    rw [s_andT, c1]
    by_cases q : 0 < i
    · rw [decide_eq_true (by omega)]
      dsimp only
      have c2 : mfrz (mOp2 dSub (mVar 5) (mC (.int 1))) en = .ok (.d (.int ((i - 1 : Nat) : Int))) en := by
        refine frz_d ?_
        rw [op2_ok (var_d v5) (b := .d (.int 1)) (e2 := en) rfl rfl rfl, s_sub, show ((i : Nat) : Int) - 1 = ((i - 1 : Nat) : Int) by omega]
        rfl
      have c3 : mfrz (mOp2 dIx (mVar 4) (mOp2 dSub (mVar 5) (mC (.int 1)))) en = .ok (.d (.int st[i - 1])) en := by
        refine frz_d ?_
        rw [op2_ok (var_d v4) c2 rfl rfl, s_dIx, at_ (i - 1) (by omega)]
      have lt : st[i - 1] < x := by
        rw [← hx]
        exact List.pairwise_iff_getElem.mp asc (i - 1) i (by omega) hi (by omega)
      rw [s_B, op2_ok c3 fx rfl rfl, s_dGe_i, decide_eq_false (by omega)]
      rfl
    · rw [decide_eq_false (by omega)]
  have t1 : q1 en = .ok false en := by
    unfold q1
    rw [or_no b1, or_no b2, or_no b3, b4]
  have d1 : mB (mOp2 dIn xk (mVar 3)) en = .ok false en := by
    rw [s_B, op2_ok fx v3 rfl l3, s_dIn, inD_l, decide_eq_false (new x mx)]
  have hi2 := ix_row g x0 x1
  have hf := row_few G x0 x1
  have d2 : mfrz (mLc (.nm 6) [6] (mOp2 dIx (mVar 0) xk) (mB (mOp2 dNin (mVar 6) (mVar 3))) (mVar 6)) en = .ok (.d (.list (([] : List Int).map .int))) en := by
    refine frz_own ?_
    have e0 : mfrz (mOp2 dIx (mVar 0) xk) en = .ok (.d (.tuple ((rowOf g x).map .int))) en := by
      refine frz_d ?_
      rw [op2_ok (var_d v0) fx rfl rfl, s_dIx, hi2]
      rfl
    rw [s_lc, e0]
    dsimp only
    have hc : mComp (.nm 6) [6] (mB (mOp2 dNin (mVar 6) (mVar 3))) (mVar 6) ((rowOf g x).map .int) en = .ok (.own (.lst (((rowOf g x).filter fun p => !decide (p ∈ done)).map .int))) en := by
      subst hen
      refine comp_emb (f := PyData.int) (p := fun p => !decide (p ∈ done)) (g := PyData.int) (rowOf g x) rfl (fun p m => ?_) (by omega)
      refine ⟨[some (.d (gD g)), some (.d (.int c)), some (.d (gD s)), some (.own (.lst (done.map .int))), some (.d (rowD st)), some (.d (.int i)), some (.d (.int p))], rfl, ?_, fun _ => rfl⟩
      rw [s_B, op2_ok (a := .d (.int p)) (b := .bor 3) (x := .int p) (y := .list (done.map .int)) (e2 := [some (.d (gD g)), some (.d (.int c)), some (.d (gD s)), some (.own (.lst (done.map .int))), some (.d (rowD st)), some (.d (.int i)), some (.d (.int p))]) rfl rfl rfl rfl, s_dNin, inD_l]
    have e3 : (rowOf g x).filter (fun p => !decide (p ∈ done)) = [] := by
      rw [List.filter_eq_nil_iff]
      intro p mp
      simp [pre x mx p mp]
    rw [hc, e3]
  have d3 : mfrz (mLst (mNil)) en = .ok (.d (.list (([] : List Int).map .int))) en := v_lst (ds := []) v_nil (by simp)
  have t2 : q2 en = .ok false en := by
    unfold q2
    rw [or_no d1, s_B, op2_ok d2 d3 rfl rfl, s_dNe, eq_ints, decide_eq_true rfl]
    rfl
  unfold qI
  rw [seq_ok (ifS_nx t1), ifS_nx t2]
noncomputable abbrev qT : M Bool := mOrT (mNotT (mB (mIsi .tTuple (mVar 4)))) (mB (mOp2 dGt (mCallD (d1 dLen) (mCons (mVar 4) (mNil))) (mVar 1)))
noncomputable abbrev qB : M Ct := mSeq (mIfS qT (mRet (mC (.bool false))) (mNx)) (mSeq (mForR1 (.nm 5) (mCons (mCallD (d1 dLen) (mCons (mVar 4) (mNil))) (mNil)) qI) (mSet 3 (mOp2 dAdd (mVar 3) (mCallD (d1 dList) (mCons (mVar 4) (mNil))))))
theorem qB_ok {g : Gr} (G : GOk g) {c : Int} (c0 : 0 ≤ c) (s : Gr) {done st : List Int} (hlc : st.length ≤ c.toNat) (asc : st.Pairwise (· < ·)) (low : ∀ k ∈ st, 0 ≤ k ∧ k < (g.length : Int)) (new : ∀ k ∈ st, k ∉ done) (pre : ∀ k ∈ st, ∀ p ∈ rowOf g k, p ∈ done) (hl : done.length + st.length ≤ 1000) (s5 : Option SV) :
    ∃ s5', qB (enQ g c s done (some (.d (rowD st))) s5) = .ok .nx (enQ g c s (done ++ st) (some (.d (rowD st))) s5') := by
  have t0 : mNotT (mB (mIsi .tTuple (mVar 4))) (enQ g c s done (some (.d (rowD st))) s5) = .ok false (enQ g c s done (some (.d (rowD st))) s5) := rfl
  have t : qT (enQ g c s done (some (.d (rowD st))) s5) = .ok false (enQ g c s done (some (.d (rowD st))) s5) := by
    unfold qT
    rw [or_no t0, s_B, op2_ok (len_r rfl) (var_d rfl) rfl rfl, s_dGt_i, decide_eq_false (by omega)]
    rfl
  obtain ⟨e', h1, s5', he⟩ := for_inv (tg := .nm 5) (body := qI) (ds := rngD 0 st.length) (e := enQ g c s done (some (.d (rowD st))) s5)
    (fun m e => ∃ s5', e = enQ g c s done (some (.d (rowD st))) s5') (fun i d e hi ⟨s5', he⟩ => by
      obtain ⟨li, rfl⟩ := rng_get hi
      subst he
      rw [Int.zero_add]
      exact ⟨_, _, rfl, .inl (qI_ok G c s asc low new pre li), some (.d (.int i)), rfl⟩) ⟨s5, rfl⟩
  subst he
  have h2 : mForR1 (.nm 5) (mCons (mCallD (d1 dLen) (mCons (mVar 4) (mNil))) (mNil)) qI (enQ g c s done (some (.d (rowD st))) s5) = .ok .nx (enQ g c s done (some (.d (rowD st))) s5') := by
    rw [forR1_run (mas := mCons (mCallD (d1 dLen) (mCons (mVar 4) (mNil))) (mNil)) (j := (st.length : Int)) (e := enQ g c s done (some (.d (rowD st))) s5) (v_cons (ds := []) (len_r rfl) v_nil) (by omega) (by omega), Int.toNat_natCast]
    exact h1
  refine ⟨s5', ?_⟩
  unfold qB
  rw [seq_ok (ifS_nx t), seq_ok h2, set_own (app_list (a := done) (b := st) rfl rfl hl)]
  rfl
theorem qLoop {g : Gr} (G : GOk g) {c : Int} (c0 : 0 ≤ c) (w : Gr) : ∀ (s : List (List Int)) (done : List Int) (s4 s5 : Option SV), Sch g c.toNat done s → done.length + s.flatten.length ≤ 1000 → ∃ s4' s5', forGo (.nm 4) none qB (s.map rowD) (enQ g c w done s4 s5) = .ok .nx (enQ g c w (done ++ s.flatten) s4' s5')
  | [], done, s4, s5, _, _ => ⟨s4, s5, by rw [List.flatten_nil, List.append_nil]; exact for_nil rfl⟩
  | st :: s, done, s4, s5, ⟨h1, h2, h3, h4, h5, h6⟩, hl => by
    rw [List.flatten_cons, List.length_append] at hl
    obtain ⟨t5, hs⟩ := qB_ok G c0 w h1 h2 h3 h4 h5 (by omega) s5
    obtain ⟨s4', s5', h⟩ := qLoop G c0 w s (done ++ st) (some (.d (rowD st))) t5 h6 (by rw [List.length_append]; omega)
    refine ⟨s4', s5', ?_⟩
    rw [List.map_cons, for_step rfl (e1 := enQ g c w done (some (.d (rowD st))) s5) rfl hs, h, List.flatten_cons, List.append_assoc]
theorem lsched_ok {g : Gr} (G : GOk g) {c : Int} (c0 : 0 ≤ c) {s : List (List Int)} (W : Whole g c.toNat s) : F__law_is_schedule [gD g, .int c, gD s] = .ok (.d (.bool true)) [] := by
  have O := W.ord
  have hol := O.len
  have hg := G.few
  obtain ⟨s4, s5, h⟩ := qLoop G c0 s s [] none none W.sch (by simp only [List.length_nil]; omega)
  rw [List.nil_append] at h
  have t : mNotT (mB (mIsi .tTuple (mVar 2))) [some (.d (gD g)), some (.d (.int c)), some (.d (gD s)), none, none, none, none] = .ok false [some (.d (gD g)), some (.d (.int c)), some (.d (gD s)), none, none, none, none] := rfl
  have h1 : mSet 3 (mLst (mNil)) [some (.d (gD g)), some (.d (.int c)), some (.d (gD s)), none, none, none, none] = .ok .nx (enQ g c s [] none none) := by
    simp only [s_set, s_lst, s_nil, s_looks_nil, List.length_nil, List.all_nil, Nat.zero_le, and_self, if_true]
    rfl
  have h2 : mFor (.nm 4) [3, 5] (mVar 2) qB (enQ g c s [] none none) = .ok .nx (enQ g c s s.flatten s4 s5) := by
    rw [s_for, show mfrz (mVar 2) (enQ g c s [] none none) = .ok (.d (.tuple (s.map rowD))) (enQ g c s [] none none) from rfl]
    exact h
  have h3 : mfrz (mCallD (d1 dLen) (mCons (mVar 3) (mNil))) (enQ g c s s.flatten s4 s5) = .ok (.d (.int (s.flatten.length : Nat))) (enQ g c s s.flatten s4 s5) := by
    refine frz_d ?_
    rw [callD_ok (cons_ok (a := .bor 3) (e2 := enQ g c s s.flatten s4 s5) rfl s_nil rfl) (ds := [.list (s.flatten.map .int)]) rfl, s_d1, s_len_l, List.length_map]
    rfl
  refine run_ok rfl (e := enQ g c s s.flatten s4 s5) ?_
  unfold m__law_is_schedule
  show mSeq _ _ [some (.d (gD g)), some (.d (.int c)), some (.d (gD s)), none, none, none, none] = _
  rw [seq_ok (ifS_nx t), seq_ok h1, seq_ok h2, s_ret, op2_ok h3 (len_g rfl) rfl rfl, s_dEq, s_eq_i, decide_eq_true (by omega)]
end K22

namespace KG
open PySem PySem.Spec PyProof.Rows L2
theorem sch_snoc {g : Gr} {c : Nat} {st : List Int} : ∀ (s : List (List Int)) (pre : List Int), Sch g c pre s → st.length ≤ c → st.Pairwise (· < ·) → (∀ k ∈ st, 0 ≤ k ∧ k < (g.length : Int)) → (∀ k ∈ st, k ∉ pre ++ s.flatten) → (∀ k ∈ st, ∀ p ∈ rowOf g k, p ∈ pre ++ s.flatten) → Sch g c pre (s ++ [st])
  | [], pre, _, h1, h2, h3, h4, h5 => ⟨h1, h2, h3, fun k m => by have := h4 k m; simpa using this, fun k m p mp => by have := h5 k m p mp; simpa using this, trivial⟩
  | r :: s, pre, ⟨a1, a2, a3, a4, a5, a6⟩, h1, h2, h3, h4, h5 => ⟨a1, a2, a3, a4, a5, sch_snoc s (pre ++ r) a6 h1 h2 h3 (fun k m => by have := h4 k m; rwa [List.flatten_cons, ← List.append_assoc] at this) fun k m p mp => by have := h5 k m p mp; rwa [List.flatten_cons, ← List.append_assoc] at this⟩
structure Dr (g : Gr) (c : Nat) (j : Nat) (done : List Int) (steps : List (List Int)) : Prop where
  nd : done.Nodup
  rg : ∀ k ∈ done, 0 ≤ k ∧ k < (g.length : Int)
  sch : Sch g c [] steps
  mem : ∀ k, k ∈ done ↔ k ∈ steps.flatten
  len : steps.length ≤ j
  far : j ≤ 20 + done.length
theorem mem_lwFree {g : Gr} {done : List Int} {k : Int} : k ∈ lwFree g done ↔ (0 ≤ k ∧ k < (g.length : Int)) ∧ k ∉ done ∧ ∀ p ∈ rowOf g k, p ∈ done := by
  show k ∈ (rngI g.length).filter (fun k => !decide (k ∈ done) && isFr g done k) ↔ _
  rw [List.mem_filter, mem_rng, Bool.and_eq_true, isFr_iff, Bool.not_eq_true', decide_eq_false_iff_not]
theorem Dr.step {g : Gr} {c j : Nat} {done ch : List Int} {steps : List (List Int)} (D : Dr g c j done steps) (nd : ch.Nodup) (sub : ∀ k ∈ ch, k ∈ lwFree g done) (hl : ch.length ≤ c) (hp : 20 ≤ j → ch ≠ []) : Dr g c (j + 1) (done ++ ch) (steps ++ [(rngI g.length).filter fun k => decide (k ∈ ch)]) := by
  have e : (rngI g.length).filter (fun k => decide (k ∈ ch)) = sortI ch := (asc_eq nd fun k m => (mem_lwFree.mp (sub k m)).1).symm
  rw [e]
  refine ⟨?_, fun k m => ?_, ?_, fun k => ?_, ?_, ?_⟩
  · rw [List.nodup_append]
    exact ⟨D.nd, nd, fun a ma b mb z => (mem_lwFree.mp (sub b mb)).2.1 (z ▸ ma)⟩
  · rcases List.mem_append.mp m with m | m
    · exact D.rg k m
    · exact (mem_lwFree.mp (sub k m)).1
  · refine sch_snoc steps [] D.sch (by rw [sortI_len nd]; exact hl) (sortI_asc _) (fun k m => (mem_lwFree.mp (sub k ((sortI_mem _ _).mp m))).1) (fun k m z => ?_) fun k m p mp => ?_
    · rw [List.nil_append, ← D.mem] at z
      exact (mem_lwFree.mp (sub k ((sortI_mem _ _).mp m))).2.1 z
    · rw [List.nil_append, ← D.mem]
      exact (mem_lwFree.mp (sub k ((sortI_mem _ _).mp m))).2.2 p mp
  · rw [List.flatten_append, List.mem_append, List.mem_append, D.mem]
    simp [sortI_mem]
  · rw [List.length_append]
    have := D.len
    simp only [List.length_cons, List.length_nil]
    omega
  · rw [List.length_append]
    have := D.far
    by_cases q : 20 ≤ j
    · have := List.length_pos_iff.mpr (hp q)
      omega
    · omega
theorem Dr.few {g : Gr} {c j : Nat} {done : List Int} {steps : List (List Int)} (D : Dr g c j done steps) : done.length ≤ g.length := by
  have h := sortI_len D.nd
  have := asc_len (n := g.length) (sortI_asc done) fun x m => D.rg x ((sortI_mem _ _).mp m)
  omega
theorem rng_ord (n : Nat) : Ord n (rngI n) := ⟨rng_nodup n, fun k => mem_rng⟩
theorem free_all {g : Gr} (G : GOk g) {done : List Int} (h : lwFree g done = []) : ∀ k, 0 ≤ k → k < (g.length : Int) → k ∈ done := fun k h0 h1 => by
  refine Classical.byContradiction fun n => ?_
  have e : (rngI g.length).filter (fun k => !decide (k ∈ done)) ≠ [] := List.ne_nil_of_mem (List.mem_filter.mpr ⟨mem_rng.mpr ⟨h0, h1⟩, by simp [n]⟩)
  exact free_some G (rng_ord g.length) e h
theorem Dr.whole {g : Gr} {c j : Nat} {done : List Int} {steps : List (List Int)} (D : Dr g c j done steps) (h : ∀ k, 0 ≤ k → k < (g.length : Int) → k ∈ done) : Whole g c steps := ⟨D.sch, fun k h0 h1 => (D.mem k).mp (h k h0 h1)⟩
theorem Dr.full {g : Gr} {c j : Nat} {done : List Int} {steps : List (List Int)} (D : Dr g c j done steps) (h : ∀ k, 0 ≤ k → k < (g.length : Int) → k ∈ done) : done.length = g.length := by
  have O : Ord g.length done := ⟨D.nd, fun k => ⟨D.rg k, fun z => h k z.1 z.2⟩⟩
  exact O.len
/-- what is taken in a step -/
def rot (free : List Int) (s m : Nat) : List Int := (free.drop s ++ free.take s).take m
theorem rot_ok (free : List Int) (s m : Nat) (nd : free.Nodup) : (rot free s m).Nodup ∧ (∀ k ∈ rot free s m, k ∈ free) ∧ (rot free s m).length ≤ m ∧ (1 ≤ m → free ≠ [] → rot free s m ≠ []) := by
  have p : (free.drop s ++ free.take s).Perm free := by
    have := List.perm_append_comm (l₁ := free.drop s) (l₂ := free.take s)
    rw [List.take_append_drop] at this
    exact this
  unfold rot
  refine ⟨(p.nodup_iff.mpr nd).sublist (List.take_sublist _ _), fun k mk => p.mem_iff.mp (List.mem_of_mem_take mk), by rw [List.length_take]; omega, fun hm hn z => ?_⟩
  rw [List.take_eq_nil_iff] at z
  rcases z with z | z
  · omega
  · rw [z] at p
    exact hn (List.nil_perm.mp p)
end KG

namespace K22
open PySem PySem.Spec PyProof.Rows L2 KG
section
variable (g : Gr) (c z : Int) (f : Bool) (ds done : List Int) (steps : List (List Int))
abbrev enV (s7 s8 s9 s10 s11 : Option SV) : En := [some (.d (gD g)), some (.d (.int c)), some (.d (.int z)), some (.d (.bool f)), some (.own (.lst (ds.map .int))), some (.own (.lst (done.map .int))), some (.own (.lst (steps.map rowD))), s7, s8, s9, s10, s11, none]
end
noncomputable abbrev w1 : M Ct := mSet 8 (mCall F__law_free (mCons (mVar 0) (mCons (mVar 5) (mNil))))
noncomputable abbrev w2 : M Ct := mIfS (mAndT (mB (mOp2 dEq (mVar 8) (mLst (mNil)))) (mB (mOp2 dEq (mCallD (d1 dLen) (mCons (mVar 5) (mNil))) (mCallD (d1 dLen) (mCons (mVar 0) (mNil)))))) (mpure .bk) (mNx)
noncomputable abbrev w3 : M Ct := mSet 9 (mCallD dMin3 (mCons (mC (.int 6)) (mCons (mVar 1) (mCons (mCallD (d1 dLen) (mCons (mVar 8) (mNil))) (mNil)))))
noncomputable abbrev w4 : M Ct := mIfS (mAndT (mNotT (mTru (mVar 3))) (mB (mOp2 dLt (mVar 7) (mC (.int 20))))) (mSet 9 (mCallD dMin2 (mCons (mVar 9) (mCons (mOp2 dIx (mVar 4) (mOp2 dMulL (mC (.int 2)) (mVar 7))) (mNil))))) (mNx)
noncomputable abbrev w5 : M Ct := mSet 10 (mOp2 dMod (mCallD (d1 dInt) (mCons (mOp2 dIx (mVar 4) (mOp2 dAdd (mOp2 dMulL (mC (.int 2)) (mVar 7)) (mC (.int 1)))) (mNil))) (mCallD dMax2 (mCons (mC (.int 1)) (mCons (mCallD (d1 dLen) (mCons (mVar 8) (mNil))) (mNil)))))
noncomputable abbrev w6 : M Ct := mSet 11 (mSl2 (mOp2 dAdd (mSl2 (mVar 8) (some (mVar 10)) none) (mSl2 (mVar 8) none (some (mVar 10)))) none (some (mVar 9)))
noncomputable abbrev w7 : M Ct := mAppend 6 (mCallD (d1 dTuple) (mCons (mLcR (.nm 12) [12] (mCons (mCallD (d1 dLen) (mCons (mVar 0) (mNil))) (mNil)) (mB (mOp2 dIn (mVar 12) (mVar 11))) (mVar 12)) (mNil)))
noncomputable abbrev w8 : M Ct := mSet 5 (mOp2 dAdd (mVar 5) (mVar 11))
noncomputable abbrev wB : M Ct := mSeq w1 (mSeq w2 (mSeq w3 (mSeq w4 (mSeq w5 (mSeq w6 (mSeq w7 w8))))))
theorem len_o {en : En} {i : Nat} {xs : List Int} (h : en[i]? = some (some (.own (.lst (xs.map .int))))) : mfrz (mCallD (d1 dLen) (mCons (mVar i) (mNil))) en = .ok (.d (.int xs.length)) en := by
  have f1 : mfrz (mVar i) en = .ok (.bor i) en := by simp only [s_frz, s_var, h]
  have f2 : look en (.bor i) = some (.list (xs.map .int)) := by rw [s_look_bor, h]
  have f3 : lentOk en (.bor i) = true := by rw [s_lent_bor, h]
  refine frz_d ?_
  rw [callD_ok (cons_ok f1 s_nil f3) (ds := [.list (xs.map .int)]) (by rw [s_looks_cons, f2]; rfl), s_d1, s_len_l, List.length_map]
  rfl
theorem var_o {en : En} {i : Nat} {xs : List Int} (h : en[i]? = some (some (.own (.lst (xs.map .int))))) : mfrz (mVar i) en = .ok (.bor i) en ∧ look en (.bor i) = some (.list (xs.map .int)) := ⟨by simp only [s_frz, s_var, h], by rw [s_look_bor, h]⟩
theorem free_nodup (g : Gr) (done : List Int) : (lwFree g done).Nodup := (rng_nodup g.length).filter _
theorem free_few {g : Gr} (G : GOk g) (done : List Int) : (lwFree g done).length ≤ 62 := by
  have h := List.length_filter_le (fun k => !decide (k ∈ done) && isFr g done k) (rngI g.length)
  rw [rng_len] at h
  have := G.few
  exact Nat.le_trans h this
section
variable {g : Gr} (G : GOk g) {c z : Int} (c1 : 1 ≤ c) {f : Bool} {ds done : List Int} {steps : List (List Int)} (hds : ds.length = 80) (hpos : ∀ d ∈ ds, 0 ≤ d)
include G
theorem w1_ok (s7 s8 s9 s10 s11 : Option SV) : w1 (enV g c z f ds done steps s7 s8 s9 s10 s11) = .ok .nx (enV g c z f ds done steps s7 (some (.own (.lst ((lwFree g done).map .int)))) s9 s10 s11) := by
  show mSet 8 _ _ = _
  rw [set_own (lfree_step G (done := done) rfl rfl)]
  rfl
include c1 hds hpos
theorem turn_ok {j : Nat} (hj : j < 40) (D : Dr g c.toNat j done steps) (hne : lwFree g done ≠ []) (s8 s9 s10 s11 : Option SV) :
    ∃ (ch : List Int) (s9' s10' : Option SV), wB (enV g c z f ds done steps (some (.d (.int j))) s8 s9 s10 s11) = .ok .nx (enV g c z f ds (done ++ ch) (steps ++ [(rngI g.length).filter fun k => decide (k ∈ ch)]) (some (.d (.int j))) (some (.own (.lst ((lwFree g done).map .int)))) s9' s10' (some (.own (.lst (ch.map .int))))) ∧
      Dr g c.toNat (j + 1) (done ++ ch) (steps ++ [(rngI g.length).filter fun k => decide (k ∈ ch)]) := by
  have hz := sizeLine_ge
  have hg := G.few
  have hff := free_few G done
  have hfl : 0 < (lwFree g done).length := List.length_pos_iff.mpr hne
  have hdf := D.few
  have h1 := w1_ok G (c := c) (z := z) (f := f) (ds := ds) (done := done) (steps := steps) (some (.d (.int j))) s8 s9 s10 s11
  -- not the end
  have h2 : w2 (enV g c z f ds done steps (some (.d (.int j))) (some (.own (.lst ((lwFree g done).map .int)))) s9 s10 s11) = .ok .nx (enV g c z f ds done steps (some (.d (.int j))) (some (.own (.lst ((lwFree g done).map .int)))) s9 s10 s11) := by
    have a1 : mB (mOp2 dEq (mVar 8) (mLst (mNil))) (enV g c z f ds done steps (some (.d (.int j))) (some (.own (.lst ((lwFree g done).map .int)))) s9 s10 s11) = .ok false (enV g c z f ds done steps (some (.d (.int j))) (some (.own (.lst ((lwFree g done).map .int)))) s9 s10 s11) := by
      have v := var_o (en := enV g c z f ds done steps (some (.d (.int j))) (some (.own (.lst ((lwFree g done).map .int)))) s9 s10 s11) (i := 8) (xs := lwFree g done) rfl
      rw [s_B, op2_ok v.1 (v_lst (ds := ([] : List Int).map .int) v_nil (by simp)) v.2 rfl, s_dEq, eq_ints, decide_eq_false hne]
    show mIfS _ _ _ _ = _
    refine ifS_nx ?_
    rw [s_andT, a1]
  -- how many
  have hmn := min3_le 6 c (lwFree g done).length
  have hm1 : 1 ≤ minI3 6 c (lwFree g done).length := by
    unfold minI3
    split <;> split <;> omega
  generalize hM : minI3 6 c (lwFree g done).length = many at hmn hm1
  have h3 : w3 (enV g c z f ds done steps (some (.d (.int j))) (some (.own (.lst ((lwFree g done).map .int)))) s9 s10 s11) = .ok .nx (enV g c z f ds done steps (some (.d (.int j))) (some (.own (.lst ((lwFree g done).map .int)))) (some (.d (.int many))) s10 s11) := by
    show mSet 9 _ _ = _
    refine (set_d (d := .int many) (e := enV g c z f ds done steps (some (.d (.int j))) (some (.own (.lst ((lwFree g done).map .int)))) s9 s10 s11) ?_).trans rfl
    rw [callD_ok (v_cons (d := .int 6) rfl (v_cons (var_d (i := 1) (d := .int c) rfl) (v_cons (len_o (i := 8) (xs := lwFree g done) rfl) v_nil))) (looks_ds _)]
    show (mpure (SV.d (.int (minI3 6 c (lwFree g done).length))) : M SV) _ = _
    rw [hM]
    rfl
  have at_ : ∀ k : Int, 0 ≤ k → k < 80 → ∃ d : Int, ixD (.list (ds.map .int)) (.int k) = some (.int d) ∧ 0 ≤ d := fun k k0 k1 => by
    have hk : k.toNat < ds.length := by omega
    exact ⟨ds[k.toNat], atI_at k0 (by rw [List.getElem?_map, List.getElem?_eq_getElem hk]; rfl), hpos _ (List.getElem_mem hk)⟩
  have twice : ∀ en : En, en[7]? = some (some (.d (.int j))) → mfrz (mOp2 dMulL (mC (.int 2)) (mVar 7)) en = .ok (.d (.int (2 * j))) en := fun en h7 => by
    refine frz_d ?_
    rw [op2_ok (a := .d (.int 2)) (e1 := en) rfl (var_d h7) rfl rfl, s_mul, if_pos (.inl (by decide))]
  obtain ⟨many', h4, hm', hm1', hm0⟩ : ∃ many' : Int, w4 (enV g c z f ds done steps (some (.d (.int j))) (some (.own (.lst ((lwFree g done).map .int)))) (some (.d (.int many))) s10 s11) = .ok .nx (enV g c z f ds done steps (some (.d (.int j))) (some (.own (.lst ((lwFree g done).map .int)))) (some (.d (.int many'))) s10 s11) ∧ many' ≤ c ∧ (20 ≤ j → 1 ≤ many') ∧ 0 ≤ many' := by
    have a1 : mNotT (mTru (mVar 3)) (enV g c z f ds done steps (some (.d (.int j))) (some (.own (.lst ((lwFree g done).map .int)))) (some (.d (.int many))) s10 s11) = .ok (!f) (enV g c z f ds done steps (some (.d (.int j))) (some (.own (.lst ((lwFree g done).map .int)))) (some (.d (.int many))) s10 s11) := rfl
    have a2 : mB (mOp2 dLt (mVar 7) (mC (.int 20))) (enV g c z f ds done steps (some (.d (.int j))) (some (.own (.lst ((lwFree g done).map .int)))) (some (.d (.int many))) s10 s11) = .ok (decide ((j : Int) < 20)) (enV g c z f ds done steps (some (.d (.int j))) (some (.own (.lst ((lwFree g done).map .int)))) (some (.d (.int many))) s10 s11) := rfl
    by_cases q : f = false ∧ j < 20
    · obtain ⟨rfl, q⟩ := q
      obtain ⟨d, hd, d0⟩ := at_ (2 * j) (by omega) (by omega)
      refine ⟨if d < many then d else many, ?_, by split <;> omega, fun z => by omega, by split <;> omega⟩
      rw [decide_eq_true (by omega)] at a2
      show mIfS _ _ _ _ = _
      have t : mAndT (mNotT (mTru (mVar 3))) (mB (mOp2 dLt (mVar 7) (mC (.int 20)))) (enV g c z false ds done steps (some (.d (.int j))) (some (.own (.lst ((lwFree g done).map .int)))) (some (.d (.int many))) s10 s11) = .ok true (enV g c z false ds done steps (some (.d (.int j))) (some (.own (.lst ((lwFree g done).map .int)))) (some (.d (.int many))) s10 s11) := (and_yes a1).trans a2
      rw [ifS_yes t]
      refine (set_d (d := .int (if d < many then d else many)) (e := enV g c z false ds done steps (some (.d (.int j))) (some (.own (.lst ((lwFree g done).map .int)))) (some (.d (.int many))) s10 s11) ?_).trans rfl
      have v := var_o (en := enV g c z false ds done steps (some (.d (.int j))) (some (.own (.lst ((lwFree g done).map .int)))) (some (.d (.int many))) s10 s11) (i := 4) (xs := ds) rfl
      have b1 : mfrz (mOp2 dIx (mVar 4) (mOp2 dMulL (mC (.int 2)) (mVar 7))) (enV g c z false ds done steps (some (.d (.int j))) (some (.own (.lst ((lwFree g done).map .int)))) (some (.d (.int many))) s10 s11) = .ok (.d (.int d)) (enV g c z false ds done steps (some (.d (.int j))) (some (.own (.lst ((lwFree g done).map .int)))) (some (.d (.int many))) s10 s11) := by
        refine frz_d ?_
        rw [op2_ok v.1 (twice _ rfl) v.2 rfl, s_dIx, hd]
      rw [callD_ok (v_cons (var_d (i := 9) (d := .int many) rfl) (v_cons b1 v_nil)) (looks_ds _)]
      rfl
    · refine ⟨many, ?_, by omega, fun _ => by omega, by omega⟩
      show mIfS _ _ _ _ = _
      refine ifS_nx ?_
      rw [s_andT, a1]
      cases f with
      | true => rfl
      | false =>
        have q' : ¬ j < 20 := fun z => q ⟨rfl, z⟩
        rw [decide_eq_false (by omega)] at a2
        exact a2
  -- where it begins
  obtain ⟨st, h5, st0⟩ : ∃ st : Int, w5 (enV g c z f ds done steps (some (.d (.int j))) (some (.own (.lst ((lwFree g done).map .int)))) (some (.d (.int many'))) s10 s11) = .ok .nx (enV g c z f ds done steps (some (.d (.int j))) (some (.own (.lst ((lwFree g done).map .int)))) (some (.d (.int many'))) (some (.d (.int st))) s11) ∧ 0 ≤ st := by
    obtain ⟨d, hd, d0⟩ := at_ (2 * j + 1) (by omega) (by omega)
    generalize hen : enV g c z f ds done steps (some (.d (.int j))) (some (.own (.lst ((lwFree g done).map .int)))) (some (.d (.int many'))) s10 s11 = en
    have v := var_o (en := en) (i := 4) (xs := ds) (by subst hen; rfl)
    have b0 : mfrz (mOp2 dAdd (mOp2 dMulL (mC (.int 2)) (mVar 7)) (mC (.int 1))) en = .ok (.d (.int (2 * j + 1))) en := by
      refine frz_d ?_
      rw [op2_ok (twice en (by subst hen; rfl)) (b := .d (.int 1)) (e2 := en) rfl rfl rfl, s_dAdd_i]
      rfl
    have b1 : mfrz (mOp2 dIx (mVar 4) (mOp2 dAdd (mOp2 dMulL (mC (.int 2)) (mVar 7)) (mC (.int 1)))) en = .ok (.d (.int d)) en := by
      refine frz_d ?_
      rw [op2_ok v.1 b0 v.2 rfl, s_dIx, hd]
    have b2 : mfrz (mCallD (d1 dInt) (mCons (mOp2 dIx (mVar 4) (mOp2 dAdd (mOp2 dMulL (mC (.int 2)) (mVar 7)) (mC (.int 1)))) (mNil))) en = .ok (.d (.int d)) en := by
      refine frz_d ?_
      rw [callD_ok (v_cons b1 v_nil) (looks_ds _), s_d1, s_dInt_i]
      rfl
    have b3 : mfrz (mCallD dMax2 (mCons (mC (.int 1)) (mCons (mCallD (d1 dLen) (mCons (mVar 8) (mNil))) (mNil)))) en = .ok (.d (.int (if ((lwFree g done).length : Int) > 1 then ((lwFree g done).length : Int) else 1))) en := by
      refine frz_d ?_
      rw [callD_ok (v_cons (d := .int 1) rfl (v_cons (len_o (xs := lwFree g done) (by subst hen; rfl)) v_nil)) (looks_ds _)]
      rfl
    refine ⟨d % (if ((lwFree g done).length : Int) > 1 then ((lwFree g done).length : Int) else 1), ?_, Int.emod_nonneg _ (by split <;> omega)⟩
    show mSet 10 _ _ = _
    refine (set_d (d := .int (d % (if ((lwFree g done).length : Int) > 1 then ((lwFree g done).length : Int) else 1))) (e := en) ?_).trans (by subst hen; rfl)
    rw [op2_ok b2 b3 rfl rfl, s_mod, if_pos (by split <;> omega)]
  -- what is taken
  obtain ⟨p1, p2, p3, p4⟩ := rot_ok (lwFree g done) st.toNat many'.toNat (free_nodup g done)
  have p5 : (rot (lwFree g done) st.toNat many'.toNat).length ≤ (lwFree g done).length := by
    unfold rot
    rw [List.length_take, List.length_append, List.length_drop, List.length_take]
    omega
  generalize hch : rot (lwFree g done) st.toNat many'.toNat = ch at p1 p2 p3 p4 p5
  have h6 : w6 (enV g c z f ds done steps (some (.d (.int j))) (some (.own (.lst ((lwFree g done).map .int)))) (some (.d (.int many'))) (some (.d (.int st))) s11) = .ok .nx (enV g c z f ds done steps (some (.d (.int j))) (some (.own (.lst ((lwFree g done).map .int)))) (some (.d (.int many'))) (some (.d (.int st))) (some (.own (.lst (ch.map .int))))) := by
    generalize hen : enV g c z f ds done steps (some (.d (.int j))) (some (.own (.lst ((lwFree g done).map .int)))) (some (.d (.int many'))) (some (.d (.int st))) s11 = en
    have v := var_o (en := en) (i := 8) (xs := lwFree g done) (by subst hen; rfl)
    have v10 : mfrz (mVar 10) en = .ok (.d (.int st)) en := var_d (by subst hen; rfl)
    have v9 : mfrz (mVar 9) en = .ok (.d (.int many')) en := var_d (by subst hen; rfl)
    have b1 : mfrz (mSl2 (mVar 8) (some (mVar 10)) none) en = .ok (.d (.list (((lwFree g done).drop st.toNat).map .int))) en := by
      refine frz_own ?_
      rw [s_slL v.1 v10 v.2, s_dSl_l, cut_drop _ st0, List.map_drop]
    have b2 : mfrz (mSl2 (mVar 8) none (some (mVar 10))) en = .ok (.d (.list (((lwFree g done).take st.toNat).map .int))) en := by
      refine frz_own ?_
      rw [s_slH v.1 v10 v.2, s_dSl_l, cut_take _ st0, List.map_take]
    have b3 : mfrz (mOp2 dAdd (mSl2 (mVar 8) (some (mVar 10)) none) (mSl2 (mVar 8) none (some (mVar 10)))) en = .ok (.d (.list (((lwFree g done).drop st.toNat ++ (lwFree g done).take st.toNat).map .int))) en := by
      refine frz_own ?_
      rw [op2_ok b1 b2 rfl rfl, s_add_l, if_pos (by
        rw [List.length_map, List.length_map, List.length_drop, List.length_take]
        omega), ← List.map_append]
    show mSet 11 _ _ = _
    refine (set_own (o := .lst (ch.map .int)) (e := en) ?_).trans (by subst hen; rfl)
    rw [s_slH b3 v9 rfl, s_dSl_l, cut_take _ hm0, ← List.map_take, ← hch]
    rfl
  have D' := D.step p1 p2 (by omega) (fun q => p4 (by have := hm1' q; omega) hne)
  have hchl : ch.length ≤ 1000 := by omega
  -- told
  have h7 : w7 (enV g c z f ds done steps (some (.d (.int j))) (some (.own (.lst ((lwFree g done).map .int)))) (some (.d (.int many'))) (some (.d (.int st))) (some (.own (.lst (ch.map .int))))) = .ok .nx (enV g c z f ds done (steps ++ [(rngI g.length).filter fun k => decide (k ∈ ch)]) (some (.d (.int j))) (some (.own (.lst ((lwFree g done).map .int)))) (some (.d (.int many'))) (some (.d (.int st))) (some (.own (.lst (ch.map .int))))) := by
    have hc : mComp (.nm 12) [12] (mB (mOp2 dIn (mVar 12) (mVar 11))) (mVar 12) ((rngI g.length).map .int) (enV g c z f ds done steps (some (.d (.int j))) (some (.own (.lst ((lwFree g done).map .int)))) (some (.d (.int many'))) (some (.d (.int st))) (some (.own (.lst (ch.map .int))))) = .ok (.own (.lst (((rngI g.length).filter fun k => decide (k ∈ ch)).map .int))) (enV g c z f ds done steps (some (.d (.int j))) (some (.own (.lst ((lwFree g done).map .int)))) (some (.d (.int many'))) (some (.d (.int st))) (some (.own (.lst (ch.map .int))))) := by
      refine comp_emb (f := PyData.int) (p := fun k => decide (k ∈ ch)) (g := PyData.int) (rngI g.length) rfl (fun k m => ?_) (by rw [rng_len]; omega)
      refine ⟨[some (.d (gD g)), some (.d (.int c)), some (.d (.int z)), some (.d (.bool f)), some (.own (.lst (ds.map .int))), some (.own (.lst (done.map .int))), some (.own (.lst (steps.map rowD))), some (.d (.int j)), some (.own (.lst ((lwFree g done).map .int))), some (.d (.int many')), some (.d (.int st)), some (.own (.lst (ch.map .int))), some (.d (.int k))], rfl, ?_, fun _ => rfl⟩
      rw [s_B, op2_ok (a := .d (.int k)) (b := .bor 11) (x := .int k) (y := .list (ch.map .int)) (e2 := [some (.d (gD g)), some (.d (.int c)), some (.d (.int z)), some (.d (.bool f)), some (.own (.lst (ds.map .int))), some (.own (.lst (done.map .int))), some (.own (.lst (steps.map rowD))), some (.d (.int j)), some (.own (.lst ((lwFree g done).map .int))), some (.d (.int many')), some (.d (.int st)), some (.own (.lst (ch.map .int))), some (.d (.int k))]) rfl rfl rfl rfl, s_dIn, inD_l]
    have hl : mCons (mCallD (d1 dLen) (mCons (mVar 0) (mNil))) (mNil) (enV g c z f ds done steps (some (.d (.int j))) (some (.own (.lst ((lwFree g done).map .int)))) (some (.d (.int many'))) (some (.d (.int st))) (some (.own (.lst (ch.map .int))))) = .ok [.d (.int g.length)] (enV g c z f ds done steps (some (.d (.int j))) (some (.own (.lst ((lwFree g done).map .int)))) (some (.d (.int many'))) (some (.d (.int st))) (some (.own (.lst (ch.map .int))))) := v_cons (ds := []) (len_g rfl) v_nil
    have b1 := lcR_run (tg := .nm 12) (vs := [12]) (mc := mB (mOp2 dIn (mVar 12) (mVar 11))) (me := mVar 12) hl (by omega) (by omega)
    rw [Int.toNat_natCast, rngD_rng, hc] at b1
    have dl := D.len
    have b2 := append_ok (i := 6) (m := mCallD (d1 dTuple) (mCons (mLcR (.nm 12) [12] (mCons (mCallD (d1 dLen) (mCons (mVar 0) (mNil))) (mNil)) (mB (mOp2 dIn (mVar 12) (mVar 11))) (mVar 12)) (mNil))) (en := enV g c z f ds done steps (some (.d (.int j))) (some (.own (.lst ((lwFree g done).map .int)))) (some (.d (.int many'))) (some (.d (.int st))) (some (.own (.lst (ch.map .int))))) (e := enV g c z f ds done steps (some (.d (.int j))) (some (.own (.lst ((lwFree g done).map .int)))) (some (.d (.int many'))) (some (.d (.int st))) (some (.own (.lst (ch.map .int))))) (d := rowD ((rngI g.length).filter fun k => decide (k ∈ ch))) (ds0 := steps.map rowD) (ds := steps.map rowD) rfl (keep_d (by
      rw [callD_ok (v_cons (frz_own b1) v_nil) (looks_ds _)]
      rfl)) rfl (by rw [List.length_map]; omega)
    show mAppend 6 _ _ = _
    rw [b2]
    dsimp only [enV]
    rw [List.map_append]
    rfl
  have h8 : w8 (enV g c z f ds done (steps ++ [(rngI g.length).filter fun k => decide (k ∈ ch)]) (some (.d (.int j))) (some (.own (.lst ((lwFree g done).map .int)))) (some (.d (.int many'))) (some (.d (.int st))) (some (.own (.lst (ch.map .int))))) = .ok .nx (enV g c z f ds (done ++ ch) (steps ++ [(rngI g.length).filter fun k => decide (k ∈ ch)]) (some (.d (.int j))) (some (.own (.lst ((lwFree g done).map .int)))) (some (.d (.int many'))) (some (.d (.int st))) (some (.own (.lst (ch.map .int))))) := by
    generalize hen : enV g c z f ds done (steps ++ [(rngI g.length).filter fun k => decide (k ∈ ch)]) (some (.d (.int j))) (some (.own (.lst ((lwFree g done).map .int)))) (some (.d (.int many'))) (some (.d (.int st))) (some (.own (.lst (ch.map .int)))) = en
    have v5 := var_o (en := en) (i := 5) (xs := done) (by subst hen; rfl)
    have v11 := var_o (en := en) (i := 11) (xs := ch) (by subst hen; rfl)
    show mSet 5 _ _ = _
    refine (set_own (o := .lst ((done ++ ch).map .int)) (e := en) ?_).trans (by subst hen; rfl)
    rw [op2_ok v5.1 v11.1 v5.2 v11.2, s_add_l, if_pos (by rw [List.length_map, List.length_map]; omega), ← List.map_append]
  refine ⟨ch, some (.d (.int many')), some (.d (.int st)), ?_, D'⟩
  unfold wB
  rw [seq_ok h1, seq_ok h2, seq_ok h3, seq_ok h4, seq_ok h5, seq_ok h6, seq_ok h7, h8]
end
end K22

namespace K22
open PySem PySem.Spec PyProof.Rows L2 KG
theorem e_draws : F__law_draws = KG.F__law_draws := rfl
section
variable {g : Gr} (G : GOk g) {c z : Int} (c1 : 1 ≤ c) {f : Bool} {ds : List Int} (hds : ds.length = 80) (hpos : ∀ d ∈ ds, 0 ≤ d) (hg : g.length ≤ 11)
include G c1 hds hpos hg
theorem dLoop : ∀ (m j : Nat) (done : List Int) (steps : List (List Int)) (s7 s8 s9 s10 s11 : Option SV), j + m = 40 → Dr g c.toNat j done steps →
    ∃ (done' : List Int) (steps' : List (List Int)) (t7 t8 t9 t10 t11 : Option SV), forGo (.nm 7) none wB ((List.range' j m).map fun i : Nat => PyData.int (i : Nat)) (enV g c z f ds done steps s7 s8 s9 s10 s11) = .ok .nx (enV g c z f ds done' steps' t7 t8 t9 t10 t11) ∧ Whole g c.toNat steps' ∧ steps'.length ≤ 40
  | 0, j, done, steps, s7, s8, s9, s10, s11, hj, D => by
    have := D.far
    have := D.few
    omega
  | m + 1, j, done, steps, s7, s8, s9, s10, s11, hj, D => by
    rw [List.range'_succ, List.map_cons]
    by_cases e : lwFree g done = []
    · have all := free_all G e
      refine ⟨done, steps, some (.d (.int j)), some (.own (.lst ((lwFree g done).map .int))), s9, s10, s11, ?_, D.whole all, by have := D.len; omega⟩
      have h1 := w1_ok G (c := c) (z := z) (f := f) (ds := ds) (done := done) (steps := steps) (some (.d (.int j))) s8 s9 s10 s11
      have a1 : mB (mOp2 dEq (mVar 8) (mLst (mNil))) (enV g c z f ds done steps (some (.d (.int j))) (some (.own (.lst ((lwFree g done).map .int)))) s9 s10 s11) = .ok true (enV g c z f ds done steps (some (.d (.int j))) (some (.own (.lst ((lwFree g done).map .int)))) s9 s10 s11) := by
        have v := var_o (en := enV g c z f ds done steps (some (.d (.int j))) (some (.own (.lst ((lwFree g done).map .int)))) s9 s10 s11) (i := 8) (xs := lwFree g done) rfl
        rw [s_B, op2_ok v.1 (v_lst (ds := ([] : List Int).map .int) v_nil (by simp)) v.2 rfl, s_dEq, eq_ints, decide_eq_true e]
      have a2 : mB (mOp2 dEq (mCallD (d1 dLen) (mCons (mVar 5) (mNil))) (mCallD (d1 dLen) (mCons (mVar 0) (mNil)))) (enV g c z f ds done steps (some (.d (.int j))) (some (.own (.lst ((lwFree g done).map .int)))) s9 s10 s11) = .ok true (enV g c z f ds done steps (some (.d (.int j))) (some (.own (.lst ((lwFree g done).map .int)))) s9 s10 s11) := by
        rw [s_B, op2_ok (len_o (xs := done) rfl) (len_g rfl) rfl rfl, s_dEq, s_eq_i, decide_eq_true (by have := D.full all; omega)]
      have h2 : w2 (enV g c z f ds done steps (some (.d (.int j))) (some (.own (.lst ((lwFree g done).map .int)))) s9 s10 s11) = .ok .bk (enV g c z f ds done steps (some (.d (.int j))) (some (.own (.lst ((lwFree g done).map .int)))) s9 s10 s11) := by
        show mIfS _ _ _ _ = _
        rw [ifS_yes ((and_yes a1).trans a2)]
        rfl
      have h3 : wB (enV g c z f ds done steps (some (.d (.int j))) s8 s9 s10 s11) = .ok .bk (enV g c z f ds done steps (some (.d (.int j))) (some (.own (.lst ((lwFree g done).map .int)))) s9 s10 s11) := by
        unfold wB
        rw [seq_ok h1, s_seq, h2]
      exact for_bk rfl (e1 := enV g c z f ds done steps (some (.d (.int j))) s8 s9 s10 s11) rfl h3
    · obtain ⟨ch, s9', s10', h, D'⟩ := turn_ok G c1 (z := z) (f := f) hds hpos (by omega) D e s8 s9 s10 s11
      obtain ⟨done', steps', t7, t8, t9, t10, t11, q, W, l⟩ := dLoop m (j + 1) _ _ (some (.d (.int j))) (some (.own (.lst ((lwFree g done).map .int)))) s9' s10' (some (.own (.lst (ch.map .int)))) (by omega) D'
      refine ⟨done', steps', t7, t8, t9, t10, t11, ?_, W, l⟩
      rw [for_step rfl (e1 := enV g c z f ds done steps (some (.d (.int j))) s8 s9 s10 s11) rfl h]
      exact q
end
theorem drawn_def : m__law_drawn = mSeq (mSet 4 (mCall F__law_draws (mCons (mVar 2) (mCons (mOp2 dMulL (mLst (mCons (mC (.int 7)) (mCons (mC (.int 97)) (mNil)))) (mC (.int 40))) (mNil))))) (mSeq (mSet 5 (mLst (mNil))) (mSeq (mSet 6 (mLst (mNil))) (mSeq (mForR1 (.nm 7) (mCons (mC (.int 40)) (mNil)) wB) (mRet (mCallD (d1 dTuple) (mCons (mVar 6) (mNil))))))) := rfl
theorem drawn_ok {g : Gr} (G : GOk g) (hg : g.length ≤ 11) {c : Int} (c1 : 1 ≤ c) (z : Int) (f : Bool) : ∃ s, F__law_drawn [gD g, .int c, .int z, .bool f] = .ok (.d (gD s)) [] ∧ Whole g c.toNat s ∧ s.length ≤ 40 := by
  have hz := sizeLine_ge
  generalize hbs : (List.replicate 40 ([7, 97] : List Int)).flatten = bs
  have hbl : bs.length = 80 := by rw [← hbs]; rfl
  have hbm : ∀ x ∈ bs, x = 7 ∨ x = 97 := fun x m => by
    rw [← hbs, List.mem_flatten] at m
    obtain ⟨l, ml, mx⟩ := m
    rw [List.mem_replicate] at ml
    rw [ml.2] at mx
    simpa using mx
  have B : L2.Bnds bs := ⟨by omega, fun x hx => by have := hbm x hx; omega, fun x hx => by have := hbm x hx; omega⟩
  obtain ⟨ds, hd, hdl, ha⟩ := KG.draws_ok z bs B
  have hpos : ∀ d ∈ ds, 0 ≤ d := fun d m => by
    obtain ⟨i, hi⟩ := List.mem_iff_getElem?.mp m
    have li : i < ds.length := (List.getElem?_eq_some_iff.mp hi).1
    exact (ha i d _ hi (List.getElem?_eq_getElem (by omega))).1
  have h1 : mSet 4 (mCall F__law_draws (mCons (mVar 2) (mCons (mOp2 dMulL (mLst (mCons (mC (.int 7)) (mCons (mC (.int 97)) (mNil)))) (mC (.int 40))) (mNil)))) [some (.d (gD g)), some (.d (.int c)), some (.d (.int z)), some (.d (.bool f)), none, none, none, none, none, none, none, none, none] = .ok .nx [some (.d (gD g)), some (.d (.int c)), some (.d (.int z)), some (.d (.bool f)), some (.own (.lst (ds.map .int))), none, none, none, none, none, none, none, none] := by
    generalize hen : ([some (.d (gD g)), some (.d (.int c)), some (.d (.int z)), some (.d (.bool f)), none, none, none, none, none, none, none, none, none] : En) = en
    have b1 : mfrz (mOp2 dMulL (mLst (mCons (mC (.int 7)) (mCons (mC (.int 97)) (mNil)))) (mC (.int 40))) en = .ok (.d (.list (bs.map .int))) en := by
      refine frz_own ?_
      rw [op2_ok (v_lst (ds := [.int 7, .int 97]) (v_cons rfl (v_cons rfl v_nil)) (by simp)) (b := .d (.int 40)) (e2 := en) rfl rfl rfl, s_mulL, if_pos ⟨by omega, by show 2 * 40 ≤ sizeLine; omega⟩, ← hbs]
      rfl
    refine (set_own (o := .lst (ds.map .int)) (e := en) ?_).trans (by subst hen; rfl)
    exact call_own (v_cons (var_d (d := .int z) (by subst hen; rfl)) (v_cons b1 v_nil)) (looksA_ds _) (by rw [e_draws]; exact hd) (flats_ints ds)
  have h2 : mSet 5 (mLst (mNil)) [some (.d (gD g)), some (.d (.int c)), some (.d (.int z)), some (.d (.bool f)), some (.own (.lst (ds.map .int))), none, none, none, none, none, none, none, none] = .ok .nx [some (.d (gD g)), some (.d (.int c)), some (.d (.int z)), some (.d (.bool f)), some (.own (.lst (ds.map .int))), some (.own (.lst (([] : List Int).map .int))), none, none, none, none, none, none, none] := by
    simp only [s_set, s_lst, s_nil, s_looks_nil, List.length_nil, List.all_nil, Nat.zero_le, and_self, if_true]
    rfl
  have h3 : mSet 6 (mLst (mNil)) [some (.d (gD g)), some (.d (.int c)), some (.d (.int z)), some (.d (.bool f)), some (.own (.lst (ds.map .int))), some (.own (.lst (([] : List Int).map .int))), none, none, none, none, none, none, none] = .ok .nx (enV g c z f ds [] [] none none none none none) := by
    simp only [s_set, s_lst, s_nil, s_looks_nil, List.length_nil, List.all_nil, Nat.zero_le, and_self, if_true]
    rfl
  have D : Dr g c.toNat 0 [] [] := ⟨List.nodup_nil, (fun k m => by cases m), trivial, (fun k => by simp), Nat.le_refl _, by omega⟩
  obtain ⟨done', s, t7, t8, t9, t10, t11, q, W, l⟩ := dLoop G c1 (z := z) (f := f) (by omega) hpos hg 40 0 [] [] none none none none none rfl D
  have h4 : mForR1 (.nm 7) (mCons (mC (.int 40)) (mNil)) wB (enV g c z f ds [] [] none none none none none) = .ok .nx (enV g c z f ds done' s t7 t8 t9 t10 t11) := by
    rw [forR1_run (mas := mCons (mC (.int 40)) (mNil)) (j := 40) (e := enV g c z f ds [] [] none none none none none) rfl (by omega) (by omega)]
    have e : rngD 0 (40 : Int).toNat = (List.range' 0 40).map fun i : Nat => PyData.int (i : Nat) := by
      show rngD 0 40 = _
      rw [rngD_rng, ← List.range_eq_range']
      unfold rngI
      rw [List.map_map]
      rfl
    rw [e]
    exact q
  refine ⟨s, run_ok rfl (e := enV g c z f ds done' s t7 t8 t9 t10 t11) ?_, W, l⟩
  rw [drawn_def]
  show mSeq _ _ [some (.d (gD g)), some (.d (.int c)), some (.d (.int z)), some (.d (.bool f)), none, none, none, none, none, none, none, none, none] = _
  rw [seq_ok h1, seq_ok h2, seq_ok h3, seq_ok h4]
  rfl
end K22

namespace K22
open PySem PySem.Spec PyProof.Rows L2 KG
theorem e_cell : F__law_cell = KG.F__law_cell := rfl
theorem e_graph : F__law_graph = KG.F__law_graph := rfl
theorem e_listed : F_listed = KG.F_listed := rfl
theorem e_llisted : F__law_listed = KG.F__law_listed := rfl
/-- each node in a step of its own -/
def lone (n : Nat) : List (List Int) := (rngI n).map fun k => [k]
theorem lone_flat : ∀ (l : List Int), (l.map fun k => [k]).flatten = l
  | [] => rfl
  | k :: l => by rw [List.map_cons, List.flatten_cons, lone_flat l]; rfl
theorem lone_sch {g : Gr} (G : GOk g) {c : Nat} (hc : 1 ≤ c) : ∀ (m j : Nat), j + m = g.length → Sch g c (rngI j) ((List.range' j m).map fun i : Nat => [(i : Int)])
  | 0, j, _ => trivial
  | m + 1, j, hj => by
    rw [List.range'_succ, List.map_cons]
    have e1 : rngI (j + 1) = rngI j ++ [(j : Int)] := by
      rw [rng_add]
      congr 1
      show [(0 : Int) + j] = [(j : Int)]
      rw [Int.zero_add]
    refine ⟨hc, List.pairwise_singleton _ _, fun k mk => ?_, fun k mk z => ?_, fun k mk p mp => ?_, ?_⟩
    · rw [List.mem_singleton.mp mk]; omega
    · rw [List.mem_singleton.mp mk, mem_rng] at z; omega
    · rw [List.mem_singleton.mp mk] at mp
      have := row_low G (by omega) mp
      rw [mem_rng]
      omega
    · rw [← e1]
      exact lone_sch G hc m (j + 1) (by omega)
theorem lone_whole {g : Gr} (G : GOk g) {c : Nat} (hc : 1 ≤ c) : Whole g c (lone g.length) := by
  have e : lone g.length = (List.range' 0 g.length).map fun i : Nat => [(i : Int)] := by
    unfold lone rngI
    rw [List.map_map, List.range_eq_range']
    rfl
  refine ⟨?_, fun k h0 h1 => ?_⟩
  · rw [e]
    exact lone_sch G hc g.length 0 (by omega)
  · unfold lone
    rw [lone_flat]
    exact mem_rng.mpr ⟨h0, h1⟩
theorem late_whole {g : Gr} {c : Nat} {s : List (List Int)} (W : Whole g c s) : Whole g c (s ++ [[], []]) := by
  have h : ∀ {s : List (List Int)}, Sch g c [] s → Sch g c [] (s ++ [[]]) := fun S => sch_snoc _ [] S (Nat.zero_le _) List.Pairwise.nil (fun k m => by cases m) (fun k m => by cases m) fun k m => by cases m
  refine ⟨?_, fun k h0 h1 => ?_⟩
  · have := h (h W.sch)
    rw [List.append_assoc] at this
    exact this
  · rw [List.flatten_append]
    exact List.mem_append_left _ (W.all k h0 h1)
/-! ### what is told of a schedule -/
abbrev told (g : Gr) (c : Int) (s : List (List Int)) : List (List Int) := pk g c.toNat 64 [] s.flatten
section
variable {g : Gr} (G : GOk g) {c : Int} (c1 : 1 ≤ c) {s : List (List Int)} (W : Whole g c.toNat s)
include G c1 W
theorem told_eq : told g c s = lw g c.toNat s.flatten g.length [] := by
  have hg := G.few
  have O := W.ord
  have hol := O.len
  have := pk_lw (c := c.toNat) G O (by omega) g.length 64 [] (by rw [filter_none]; omega) (by rw [filter_none]; omega)
  rw [filter_none] at this
  exact this
theorem told_whole : Whole g c.toNat (told g c s) ∧ Grd g c.toNat [] (told g c s) := by
  have hg := G.few
  have O := W.ord
  have hol := O.len
  obtain ⟨h1, h2⟩ := pk_sch (c := c.toNat) G O (by omega) 64 []
  rw [filter_none] at h1 h2
  refine ⟨⟨h1, fun k k0 k1 => ?_⟩, h2⟩
  have := pk_all (c := c.toNat) G O (by omega) 64 [] (by rw [filter_none]; omega) k (W.all k k0 k1) (by simp)
  rw [filter_none] at this
  exact this
theorem told_longer : (told g c s).length ≤ s.length := by
  have := longer (g := g) (c := c.toNat) s [] [] 64 (fun x m => by cases m) W.sch
  rw [List.nil_append, filter_none] at this
  exact this
theorem cut_ok : F_cut_down [gD g, .int c, gD s] = .ok (.d (gD (told g c s))) [] := by
  have hg := G.few
  have O := W.ord
  have hol := O.len
  have h1 : mfrz (mCall F_nodes_of (mCons (mVar 2) (mNil))) [some (.d (gD g)), some (.d (.int c)), some (.d (gD s))] = .ok (.d (.list (s.flatten.map .int))) [some (.d (gD g)), some (.d (.int c)), some (.d (gD s))] :=
    frz_own (call_own (v_cons (var_d rfl) v_nil) (looksA_ds _) (nodes_ok (by omega)) (flats_ints _))
  refine run_ok rfl (e := [some (.d (gD g)), some (.d (.int c)), some (.d (gD s))]) ?_
  unfold m_cut_down
  show mRet _ [some (.d (gD g)), some (.d (.int c)), some (.d (gD s))] = _
  rw [s_ret, v_call (v_cons (var_d rfl) (v_cons (var_d rfl) (v_cons h1 v_nil))) (by rw [e_listed]; exact listed_ok G c1 (.inl rfl) O) (flat_g _)]
  try rfl
end
abbrev enB (ns : List Int) (c : Int) (g : Gr) (a b l : Gr) (s6 s7 s8 s9 : Option SV) : En := [some (.d (scrD ns)), some (.d (.int c)), some (.d (gD g)), some (.d (gD a)), some (.d (gD b)), some (.d (gD l)), s6, s7, s8, s9, none]
noncomputable abbrev b1 : M Ct := mIfS (mNotT (mB (mCall F__law_is_schedule (mCons (mVar 2) (mCons (mVar 1) (mCons (mVar 6) (mNil))))))) (mRet (mC (.bool false))) (mNx)
noncomputable abbrev b3B : M Ct := mSet 7 (mOp2 dAdd (mVar 7) (mCallD (d1 dList) (mCons (mVar 8) (mNil))))
noncomputable abbrev b4 : M Ct := mSet 9 (mCall F_cut_down (mCons (mVar 2) (mCons (mVar 1) (mCons (mVar 6) (mNil)))))
noncomputable abbrev b5 : M Ct := mIfS (mOrT (mB (mOp2 dNe (mCallD (d1 dRepr) (mCons (mVar 9) (mNil))) (mCallD (d1 dRepr) (mCons (mCall F__law_listed (mCons (mVar 2) (mCons (mVar 1) (mCons (mVar 7) (mNil))))) (mNil))))) (mB (mOp2 dGt (mCallD (d1 dLen) (mCons (mVar 9) (mNil))) (mCallD (d1 dLen) (mCons (mVar 6) (mNil)))))) (mRet (mC (.bool false))) (mNx)
noncomputable abbrev b6 : M Ct := mIfS (mOrT (mNotT (mB (mCall F__law_is_schedule (mCons (mVar 2) (mCons (mVar 1) (mCons (mVar 9) (mNil))))))) (mNotT (mB (mCall F__law_is_greedy (mCons (mVar 2) (mCons (mVar 1) (mCons (mVar 9) (mNil)))))))) (mRet (mC (.bool false))) (mNx)
noncomputable abbrev b7 : M Ct := mIfS (mOrT (mB (mOp2 dNis (mCall F_is_schedule (mCons (mVar 2) (mCons (mVar 1) (mCons (mVar 9) (mNil))))) (mC (.bool true)))) (mB (mOp2 dNis (mCall F_is_greedy (mCons (mVar 2) (mCons (mVar 1) (mCons (mVar 9) (mNil))))) (mC (.bool true))))) (mRet (mC (.bool false))) (mNx)
noncomputable abbrev bB : M Ct := mSeq b1 (mSeq (mSet 7 (mLst (mNil))) (mSeq (mFor (.nm 8) [7] (mVar 6) b3B) (mSeq b4 (mSeq b5 (mSeq b6 b7)))))
theorem oLoop (ns : List Int) (c : Int) (g a b l w : Gr) (s9 : Option SV) : ∀ (s : List (List Int)) (o : List Int) (s8 : Option SV), o.length + s.flatten.length ≤ 1000 → ∃ s8', forGo (.nm 8) none b3B (s.map rowD) (enB ns c g a b l (some (.d (gD w))) (some (.own (.lst (o.map .int)))) s8 s9) = .ok .nx (enB ns c g a b l (some (.d (gD w))) (some (.own (.lst ((o ++ s.flatten).map .int)))) s8' s9)
  | [], o, s8, _ => ⟨s8, by rw [List.flatten_nil, List.append_nil]; exact for_nil rfl⟩
  | st :: s, o, s8, hl => by
    rw [List.flatten_cons, List.length_append] at hl
    obtain ⟨s8', h⟩ := oLoop ns c g a b l w s9 s (o ++ st) (some (.d (rowD st))) (by rw [List.length_append]; omega)
    refine ⟨s8', ?_⟩
    have hs : b3B (enB ns c g a b l (some (.d (gD w))) (some (.own (.lst (o.map .int)))) (some (.d (rowD st))) s9) = .ok .nx (enB ns c g a b l (some (.d (gD w))) (some (.own (.lst ((o ++ st).map .int)))) (some (.d (rowD st))) s9) := by
      show mSet 7 _ _ = _
      rw [set_own (app_list (a := o) (b := st) rfl rfl (by omega))]
      rfl
    rw [List.map_cons, for_step rfl (e1 := enB ns c g a b l (some (.d (gD w))) (some (.own (.lst (o.map .int)))) (some (.d (rowD st))) s9) rfl hs, h, List.flatten_cons, List.append_assoc]
theorem turn (ns : List Int) {c : Int} (c1 : 1 ≤ c) {g : Gr} (G : GOk g) (a b l : Gr) {s : Gr} (W : Whole g c.toNat s) (hs : s.length ≤ 90) (s7 s8 s9 : Option SV) :
    ∃ t7 t8 t9, bB (enB ns c g a b l (some (.d (gD s))) s7 s8 s9) = .ok .nx (enB ns c g a b l (some (.d (gD s))) t7 t8 t9) := by
  have hg := G.few
  have O := W.ord
  have hol := O.len
  obtain ⟨TW, TG⟩ := told_whole G c1 W
  have TL := told_longer G c1 W
  have TE := told_eq G c1 W
  have hT := cut_ok G c1 W
  obtain ⟨z, hz⟩ := repr_rows (s := lw g c.toNat s.flatten g.length []) (by have := (lw_small G c.toNat s.flatten g.length []).1; omega) (lw_small G c.toNat s.flatten g.length []).2
  have hll := llisted_ok G (c := c) (by omega) (order := s.flatten) (by omega)
  have tfl := TW.ord.len
  rw [← TE] at hz hll
  generalize told g c s = T at TW TG TL TE hT hz hll tfl
  have i1 : b1 (enB ns c g a b l (some (.d (gD s))) s7 s8 s9) = .ok .nx (enB ns c g a b l (some (.d (gD s))) s7 s8 s9) := ifS_nx (notB (v_call (v_cons (var_d rfl) (v_cons (var_d rfl) (v_cons (var_d rfl) v_nil))) (lsched_ok G (by omega) W) rfl))
  have i2 : mSet 7 (mLst (mNil)) (enB ns c g a b l (some (.d (gD s))) s7 s8 s9) = .ok .nx (enB ns c g a b l (some (.d (gD s))) (some (.own (.lst (([] : List Int).map .int)))) s8 s9) := by
    simp only [s_set, s_lst, s_nil, s_looks_nil, List.length_nil, List.all_nil, Nat.zero_le, and_self, if_true]
    rfl
  obtain ⟨t8, q⟩ := oLoop ns c g a b l s s9 s [] s8 (by simp only [List.length_nil]; omega)
  rw [List.nil_append] at q
  have i3 : mFor (.nm 8) [7] (mVar 6) b3B (enB ns c g a b l (some (.d (gD s))) (some (.own (.lst (([] : List Int).map .int)))) s8 s9) = .ok .nx (enB ns c g a b l (some (.d (gD s))) (some (.own (.lst (s.flatten.map .int)))) t8 s9) := by
    rw [s_for, show mfrz (mVar 6) (enB ns c g a b l (some (.d (gD s))) (some (.own (.lst (([] : List Int).map .int)))) s8 s9) = .ok (.d (.tuple (s.map rowD))) (enB ns c g a b l (some (.d (gD s))) (some (.own (.lst (([] : List Int).map .int)))) s8 s9) from rfl]
    exact q
  have i4 : b4 (enB ns c g a b l (some (.d (gD s))) (some (.own (.lst (s.flatten.map .int)))) t8 s9) = .ok .nx (enB ns c g a b l (some (.d (gD s))) (some (.own (.lst (s.flatten.map .int)))) t8 (some (.d (gD T)))) := by
    show mSet 9 _ _ = _
    rw [set_d (v_call (v_cons (var_d rfl) (v_cons (var_d rfl) (v_cons (var_d rfl) v_nil))) hT (flat_g _))]
    rfl
  generalize hen : enB ns c g a b l (some (.d (gD s))) (some (.own (.lst (s.flatten.map .int)))) t8 (some (.d (gD T))) = en at i4
  have v1 : en[1]? = some (some (.d (.int c))) := by subst hen; rfl
  have v2 : en[2]? = some (some (.d (gD g))) := by subst hen; rfl
  have v6 : en[6]? = some (some (.d (gD s))) := by subst hen; rfl
  have v7 : en[7]? = some (some (.own (.lst (s.flatten.map .int)))) := by subst hen; rfl
  have v9 : en[9]? = some (some (.d (gD T))) := by subst hen; rfl
  have i5 : b5 en = .ok .nx en := by
    have hz' : reprD (gD T) = some z := hz
    have r1 : mfrz (mCallD (d1 dRepr) (mCons (mVar 9) (mNil))) en = .ok (.d (.str z)) en := by
      refine frz_d ?_
      rw [callD_ok (v_cons (var_d v9) v_nil) (looks_ds _), s_d1, s_dRepr, hz']
    have r2 : mfrz (mCall F__law_listed (mCons (mVar 2) (mCons (mVar 1) (mCons (mVar 7) (mNil))))) en = .ok (.d (gD T)) en := by
      have f1 : mfrz (mVar 7) en = .ok (.bor 7) en := by simp only [s_frz, s_var, v7]
      have f2 : lookA en (.bor 7) = some (.list (s.flatten.map .int)) := by rw [s_lookA_bor, v7]
      have f3 : lentOk en (.bor 7) = true := by rw [s_lent_bor, v7]
      refine frz_d (call_d (cons_ok (var_d v2) (cons_ok (var_d v1) (cons_ok f1 s_nil f3) rfl) rfl) (ds := [gD g, .int c, .list (s.flatten.map .int)]) ?_ (by rw [e_llisted]; exact hll) (flat_g _))
      rw [s_looksA_cons, s_lookA_d, s_looksA_cons, s_lookA_d, s_looksA_cons, f2]
      rfl
    have r3 : mfrz (mCallD (d1 dRepr) (mCons (mCall F__law_listed (mCons (mVar 2) (mCons (mVar 1) (mCons (mVar 7) (mNil))))) (mNil))) en = .ok (.d (.str z)) en := by
      refine frz_d ?_
      rw [callD_ok (v_cons r2 v_nil) (looks_ds _), s_d1, s_dRepr, hz']
    have r4 : mB (mOp2 dNe (mCallD (d1 dRepr) (mCons (mVar 9) (mNil))) (mCallD (d1 dRepr) (mCons (mCall F__law_listed (mCons (mVar 2) (mCons (mVar 1) (mCons (mVar 7) (mNil))))) (mNil)))) en = .ok false en := by
      rw [s_B, op2_ok r1 r3 rfl rfl, s_dNe, s_eq_s, decide_eq_true rfl]
      rfl
    show mIfS _ _ _ _ = _
    refine ifS_nx ?_
    rw [or_no r4, s_B, op2_ok (len_g v9) (len_g v6) rfl rfl, s_dGt_i, decide_eq_false (by omega)]
    rfl
  have args : mCons (mVar 2) (mCons (mVar 1) (mCons (mVar 9) (mNil))) en = .ok ([gD g, .int c, gD T].map SV.d) en := v_cons (var_d v2) (v_cons (var_d v1) (v_cons (var_d v9) v_nil))
  have i6 : b6 en = .ok .nx en := by
    show mIfS _ _ _ _ = _
    refine ifS_nx ?_
    rw [or_no (notB (v_call args (lsched_ok G (by omega) TW) rfl))]
    exact notB (v_call args (lgreedy_ok G (by omega) (by omega) TG) rfl)
  have i7 : b7 en = .ok .nx en := by
    have y1 : mB (mOp2 dNis (mCall F_is_schedule (mCons (mVar 2) (mCons (mVar 1) (mCons (mVar 9) (mNil))))) (mC (.bool true))) en = .ok false en := by
      rw [s_B, op2_ok (frz_d (v_call args (sched_ok G (by omega) TW (by omega)) rfl)) (b := .d (.bool true)) (e2 := en) rfl rfl rfl, s_dNis_b]
      rfl
    have y2 : mB (mOp2 dNis (mCall F_is_greedy (mCons (mVar 2) (mCons (mVar 1) (mCons (mVar 9) (mNil))))) (mC (.bool true))) en = .ok false en := by
      rw [s_B, op2_ok (frz_d (v_call args (greedy_ok G (by omega) TW (by omega) TG) rfl)) (b := .d (.bool true)) (e2 := en) rfl rfl rfl, s_dNis_b]
      rfl
    show mIfS _ _ _ _ = _
    refine ifS_nx ?_
    rw [or_no y1, y2]
  refine ⟨some (.own (.lst (s.flatten.map .int))), t8, some (.d (gD T)), ?_⟩
  rw [hen]
  unfold bB
  rw [seq_ok i1, seq_ok i2, seq_ok i3, seq_ok i4, seq_ok i5, seq_ok i6, i7]
end K22

namespace K22
open PySem PySem.Spec PyProof.Rows L2 KG
theorem law_def : m_law = mSeq (mSet 1 (mOp2 dAdd (mC (.int 1)) (mOp2 dIx (mCall F__law_draws (mCons (mCall F__law_cell (mCons (mVar 0) (mCons (mC (.int 0)) (mNil)))) (mCons (mLst (mCons (mC (.int 6)) (mNil))) (mNil)))) (mC (.int 0))))) (mSeq (mSet 2 (mCall F__law_graph (mCons (mVar 0) (mCons (mC (.int 1)) (mCons (mC (.int 11)) (mNil)))))) (mSeq (mSet 3 (mCall F__law_drawn (mCons (mVar 2) (mCons (mVar 1) (mCons (mCall F__law_cell (mCons (mVar 0) (mCons (mC (.int 14)) (mNil)))) (mCons (mC (.bool false)) (mNil))))))) (mSeq (mSet 4 (mCall F__law_drawn (mCons (mVar 2) (mCons (mVar 1) (mCons (mCall F__law_cell (mCons (mVar 0) (mCons (mC (.int 15)) (mNil)))) (mCons (mC (.bool true)) (mNil))))))) (mSeq (mSet 5 (mCallD (d1 dTuple) (mCons (mLcR (.nm 10) [10] (mCons (mCallD (d1 dLen) (mCons (mVar 2) (mNil))) (mNil)) (mYes) (mTup (mCons (mVar 10) (mNil)))) (mNil)))) (mSeq (mFor (.nm 6) [7, 8, 9] (mLst (mCons (mVar 3) (mCons (mVar 4) (mCons (mVar 5) (mCons (mOp2 dAdd (mVar 3) (mTup (mCons (mTup (mNil)) (mCons (mTup (mNil)) (mNil))))) (mNil)))))) bB) (mRet (mC (.bool true)))))))) := rfl
theorem cell_step (ns : List Int) {k : Int} (k0 : 0 ≤ k) : ∃ z : Int, ∀ en : En, en[0]? = some (some (.d (scrD ns))) → mfrz (mCall F__law_cell (mCons (mVar 0) (mCons (mC (.int k)) (mNil)))) en = .ok (.d (.int z)) en := by
  obtain ⟨z, hz⟩ := cell_ok ns k0
  exact ⟨z, fun en h => frz_d (v_call (v_cons (var_d h) (v_cons (d := .int k) rfl v_nil)) (by rw [e_cell]; exact hz) rfl)⟩
theorem math (ns : List Int) (hn : ns.length ≤ 63) : ∃ en, F_law [scrD ns] = .ok (.d (.bool true)) en := by
  have hz := sizeLine_ge
  obtain ⟨z0, c0⟩ := cell_step ns (k := 0) (by omega)
  obtain ⟨z1, cl1⟩ := cell_step ns (k := 14) (by omega)
  obtain ⟨z2, cl2⟩ := cell_step ns (k := 15) (by omega)
  have B : L2.Bnds [6] := ⟨by simp, fun x hx => by simp at hx; omega, fun x hx => by simp at hx; omega⟩
  obtain ⟨sh, hd, hl, ha⟩ := KG.draws_ok z0 [6] B
  obtain ⟨g, hg, G, lg⟩ := KG.graph_drawn ns (start := 1) (most := 11) (by omega) (by omega) (by omega)
  match sh, hl with
  | [x], _ =>
    have hx := ha 0 x 6 rfl rfl
    obtain ⟨c, hc⟩ : ∃ c : Int, 1 + x = c := ⟨_, rfl⟩
    have c1 : 1 ≤ c := by omega
    obtain ⟨a, ha1, WA, la⟩ := drawn_ok G (by omega) c1 z1 false
    obtain ⟨b, hb1, WB, lb⟩ := drawn_ok G (by omega) c1 z2 true
    have WL := lone_whole G (c := c.toNat) (by omega)
    have ll : (lone g.length).length = g.length := by unfold lone; rw [List.length_map, rng_len]
    have h1 : mSet 1 (mOp2 dAdd (mC (.int 1)) (mOp2 dIx (mCall F__law_draws (mCons (mCall F__law_cell (mCons (mVar 0) (mCons (mC (.int 0)) (mNil)))) (mCons (mLst (mCons (mC (.int 6)) (mNil))) (mNil)))) (mC (.int 0)))) [some (.d (scrD ns)), none, none, none, none, none, none, none, none, none, none] = .ok .nx [some (.d (scrD ns)), some (.d (.int c)), none, none, none, none, none, none, none, none, none] := by
      generalize hen : ([some (.d (scrD ns)), none, none, none, none, none, none, none, none, none, none] : En) = en
      have y1 : mfrz (mCall F__law_draws (mCons (mCall F__law_cell (mCons (mVar 0) (mCons (mC (.int 0)) (mNil)))) (mCons (mLst (mCons (mC (.int 6)) (mNil))) (mNil)))) en = .ok (.d (.list ([x].map .int))) en :=
        frz_own (call_own (v_cons (c0 en (by subst hen; rfl)) (v_cons (v_lst (ds := [.int 6]) (v_cons rfl v_nil) (by simp)) v_nil)) (looksA_ds _) (by rw [e_draws]; exact hd) (flats_ints [x]))
      have y2 : mfrz (mOp2 dIx (mCall F__law_draws (mCons (mCall F__law_cell (mCons (mVar 0) (mCons (mC (.int 0)) (mNil)))) (mCons (mLst (mCons (mC (.int 6)) (mNil))) (mNil)))) (mC (.int 0))) en = .ok (.d (.int x)) en := by
        refine frz_d ?_
        rw [op2_ok y1 (b := .d (.int 0)) (e2 := en) rfl rfl rfl, s_dIx]
        rfl
      refine (set_d (d := .int c) (e := en) ?_).trans (by subst hen; rfl)
      rw [op2_ok (a := .d (.int 1)) (e1 := en) rfl y2 rfl rfl, s_dAdd_i, hc]
      rfl
    have h2 : mSet 2 (mCall F__law_graph (mCons (mVar 0) (mCons (mC (.int 1)) (mCons (mC (.int 11)) (mNil))))) [some (.d (scrD ns)), some (.d (.int c)), none, none, none, none, none, none, none, none, none] = .ok .nx [some (.d (scrD ns)), some (.d (.int c)), some (.d (gD g)), none, none, none, none, none, none, none, none] := by
      rw [set_d (v_call (v_cons (var_d rfl) (v_cons (d := .int 1) rfl (v_cons (d := .int 11) rfl v_nil))) (by rw [e_graph]; exact hg) (flat_g _))]
      rfl
    have h3 : mSet 3 (mCall F__law_drawn (mCons (mVar 2) (mCons (mVar 1) (mCons (mCall F__law_cell (mCons (mVar 0) (mCons (mC (.int 14)) (mNil)))) (mCons (mC (.bool false)) (mNil)))))) [some (.d (scrD ns)), some (.d (.int c)), some (.d (gD g)), none, none, none, none, none, none, none, none] = .ok .nx [some (.d (scrD ns)), some (.d (.int c)), some (.d (gD g)), some (.d (gD a)), none, none, none, none, none, none, none] := by
      rw [set_d (v_call (v_cons (var_d rfl) (v_cons (var_d rfl) (v_cons (cl1 _ rfl) (v_cons (d := .bool false) rfl v_nil)))) ha1 (flat_g _))]
      rfl
    have h4 : mSet 4 (mCall F__law_drawn (mCons (mVar 2) (mCons (mVar 1) (mCons (mCall F__law_cell (mCons (mVar 0) (mCons (mC (.int 15)) (mNil)))) (mCons (mC (.bool true)) (mNil)))))) [some (.d (scrD ns)), some (.d (.int c)), some (.d (gD g)), some (.d (gD a)), none, none, none, none, none, none, none] = .ok .nx [some (.d (scrD ns)), some (.d (.int c)), some (.d (gD g)), some (.d (gD a)), some (.d (gD b)), none, none, none, none, none, none] := by
      rw [set_d (v_call (v_cons (var_d rfl) (v_cons (var_d rfl) (v_cons (cl2 _ rfl) (v_cons (d := .bool true) rfl v_nil)))) hb1 (flat_g _))]
      rfl
    have h5 : mSet 5 (mCallD (d1 dTuple) (mCons (mLcR (.nm 10) [10] (mCons (mCallD (d1 dLen) (mCons (mVar 2) (mNil))) (mNil)) (mYes) (mTup (mCons (mVar 10) (mNil)))) (mNil))) [some (.d (scrD ns)), some (.d (.int c)), some (.d (gD g)), some (.d (gD a)), some (.d (gD b)), none, none, none, none, none, none] = .ok .nx (enB ns c g a b (lone g.length) none none none none) := by
      have hlen : mCons (mCallD (d1 dLen) (mCons (mVar 2) (mNil))) (mNil) [some (.d (scrD ns)), some (.d (.int c)), some (.d (gD g)), some (.d (gD a)), some (.d (gD b)), none, none, none, none, none, none] = .ok [.d (.int g.length)] [some (.d (scrD ns)), some (.d (.int c)), some (.d (gD g)), some (.d (gD a)), some (.d (gD b)), none, none, none, none, none, none] := v_cons (ds := []) (len_g rfl) v_nil
      have y1 := lcR_run (tg := .nm 10) (vs := [10]) (mc := mYes) (me := mTup (mCons (mVar 10) (mNil))) hlen (by omega) (by omega)
      have y2 : mComp (.nm 10) [10] mYes (mTup (mCons (mVar 10) (mNil))) ((rngI g.length).map .int) [some (.d (scrD ns)), some (.d (.int c)), some (.d (gD g)), some (.d (gD a)), some (.d (gD b)), none, none, none, none, none, none] = .ok (.own (.lst ((lone g.length).map rowD))) [some (.d (scrD ns)), some (.d (.int c)), some (.d (gD g)), some (.d (gD a)), some (.d (gD b)), none, none, none, none, none, none] := by
        rw [comp_emb (f := PyData.int) (p := fun _ => true) (g := fun k => rowD [k]) (rngI g.length) rfl (fun k m => ?_) (by rw [rng_len]; omega)]
        · rw [List.filter_eq_self.mpr fun _ _ => rfl]
          unfold lone
          rw [List.map_map]
          rfl
        · exact ⟨[some (.d (scrD ns)), some (.d (.int c)), some (.d (gD g)), some (.d (gD a)), some (.d (gD b)), none, none, none, none, none, some (.d (.int k))], rfl, rfl, fun _ => keep_d (v_tup (ds := [.int k]) (v_cons (var_d rfl) v_nil) (by simp))⟩
      rw [Int.toNat_natCast, rngD_rng, y2] at y1
      refine (set_d (d := gD (lone g.length)) (e := [some (.d (scrD ns)), some (.d (.int c)), some (.d (gD g)), some (.d (gD a)), some (.d (gD b)), none, none, none, none, none, none]) ?_).trans rfl
      rw [callD_ok (v_cons (frz_own y1) v_nil) (looks_ds _)]
      rfl
    obtain ⟨e', q1, s6, s7, s8, s9, he⟩ := for_inv (tg := .nm 6) (body := bB) (ds := [a, b, lone g.length, a ++ [[], []]].map gD) (e := enB ns c g a b (lone g.length) none none none none)
      (fun _ e => ∃ s6 s7 s8 s9, e = enB ns c g a b (lone g.length) s6 s7 s8 s9) (fun i d e hi ⟨s6, s7, s8, s9, he⟩ => by
        subst he
        obtain ⟨s, ms, rfl⟩ := List.mem_map.mp (List.mem_of_getElem? hi)
        have hs : Whole g c.toNat s ∧ s.length ≤ 90 := by
          simp only [List.mem_cons, List.not_mem_nil, or_false] at ms
          rcases ms with rfl | rfl | rfl | rfl
          · exact ⟨WA, by omega⟩
          · exact ⟨WB, by omega⟩
          · exact ⟨WL, by have := G.few; omega⟩
          · exact ⟨late_whole WA, by rw [List.length_append]; simp only [List.length_cons, List.length_nil]; omega⟩
        obtain ⟨t7, t8, t9, h⟩ := turn ns c1 G a b (lone g.length) hs.1 hs.2 s7 s8 s9
        exact ⟨enB ns c g a b (lone g.length) (some (.d (gD s))) s7 s8 s9, _, rfl, .inl h, some (.d (gD s)), t7, t8, t9, rfl⟩) ⟨none, none, none, none, rfl⟩
    subst he
    have h6 : mFor (.nm 6) [7, 8, 9] (mLst (mCons (mVar 3) (mCons (mVar 4) (mCons (mVar 5) (mCons (mOp2 dAdd (mVar 3) (mTup (mCons (mTup (mNil)) (mCons (mTup (mNil)) (mNil))))) (mNil)))))) bB (enB ns c g a b (lone g.length) none none none none) = .ok .nx (enB ns c g a b (lone g.length) s6 s7 s8 s9) := by
      generalize hen : enB ns c g a b (lone g.length) none none none none = en at q1
      have v3 : mfrz (mVar 3) en = .ok (.d (gD a)) en := var_d (by subst hen; rfl)
      have v4 : mfrz (mVar 4) en = .ok (.d (gD b)) en := var_d (by subst hen; rfl)
      have v5 : mfrz (mVar 5) en = .ok (.d (gD (lone g.length))) en := var_d (by subst hen; rfl)
      have t0 : mfrz (mTup (mNil)) en = .ok (.d (rowD [])) en := frz_d (v_tup (ds := []) v_nil (by simp))
      have t1 : mfrz (mTup (mCons (mTup (mNil)) (mCons (mTup (mNil)) (mNil)))) en = .ok (.d (gD [[], []])) en := frz_d (v_tup (ds := [rowD [], rowD []]) (v_cons t0 (v_cons t0 v_nil)) (by simp))
      have t2 : mfrz (mOp2 dAdd (mVar 3) (mTup (mCons (mTup (mNil)) (mCons (mTup (mNil)) (mNil))))) en = .ok (.d (gD (a ++ [[], []]))) en := by
        refine frz_d ?_
        rw [op2_ok v3 t1 rfl rfl, KG.add_g (by simp only [List.length_cons, List.length_nil]; omega)]
      rw [s_for, v_lst (ds := [a, b, lone g.length, a ++ [[], []]].map gD) (v_cons v3 (v_cons v4 (v_cons v5 (v_cons t2 v_nil)))) (by simp)]
      exact q1
    refine ⟨[], run_ok rfl (e := enB ns c g a b (lone g.length) s6 s7 s8 s9) ?_⟩
    rw [law_def]
    show mSeq _ _ [some (.d (scrD ns)), none, none, none, none, none, none, none, none, none, none] = _
    rw [seq_ok h1, seq_ok h2, seq_ok h3, seq_ok h4, seq_ok h5, seq_ok h6]
    rfl
end K22

open PySem PySem.W PyProof.Rows
set_option maxHeartbeats 0 in
theorem PySem.Challenge.cw_forkspan_k22_cut_down_is_never_longer_holds : PySem.Challenge.rw_forkspan_k22_cut_down_is_never_longer.Holds := by
  w_on; o_law; k_head; (case hw => w_witness2)
  k_fill
  refine L2.walk_ofG (l := PySem.Challenge.rw_forkspan_k22_cut_down_is_never_longer) (n := 63) (x := "script") (CX := fun w => L2N.CX PySem.Challenge.rw_forkspan_k22_cut_down_is_never_longer.prog w) (sp := fun w => L2.spLaw _) rfl (by decide) rfl (fun w h Y => PySem.W.kIn_of Y) ?F (fun _ _ a ns hl _ hS => ⟨a, ns, rfl, hl, hS, fun _ => rfl⟩) (fun _ _ _ _ _ h => L2.cx_no h)
  case F =>
    intro w mg fa h KX G hmg
    refine' K22.all_mk K22.math KX G hmg ?p_is_integer ?l_is_integer ?c_is_integer ?k_is_integer ?p_is_row ?l_is_row ?c_is_row ?k_is_row ?p_is_graph ?l_is_graph ?c_is_graph ?k_is_graph ?p_check_graph ?l_check_graph ?c_check_graph ?k_check_graph ?p_nodes_of ?l_nodes_of ?c_nodes_of ?k_nodes_of ?p_is_schedule ?l_is_schedule ?c_is_schedule ?k_is_schedule ?p_is_free ?l_is_free ?c_is_free ?k_is_free ?p_free_nodes ?l_free_nodes ?c_free_nodes ?k_free_nodes ?p_is_greedy ?l_is_greedy ?c_is_greedy ?k_is_greedy ?p_listed ?l_listed ?c_listed ?k_listed ?p_cut_down ?l_cut_down ?c_cut_down ?k_cut_down ?p__law_whole ?l__law_whole ?c__law_whole ?k__law_whole ?p__law_cell ?l__law_cell ?c__law_cell ?k__law_cell ?p__law_draws ?l__law_draws ?c__law_draws ?k__law_draws ?p__law_graph ?l__law_graph ?c__law_graph ?k__law_graph ?p__law_free ?l__law_free ?c__law_free ?k__law_free ?p__law_listed ?l__law_listed ?c__law_listed ?k__law_listed ?p__law_drawn ?l__law_drawn ?c__law_drawn ?k__law_drawn ?p__law_is_schedule ?l__law_is_schedule ?c__law_is_schedule ?k__law_is_schedule ?p__law_is_greedy ?l__law_is_greedy ?c__law_is_greedy ?k__law_is_greedy ?p_law ?l_law ?c_law ?k_law ?z_abs ?z_all ?z_bool ?z_enumerate ?z_int ?z_isinstance ?z_len ?z_list ?z_max ?z_min ?z_range ?z_repr ?z_set ?z_sorted ?z_tuple ?pC_InvalidGraph ?xC_InvalidGraph ?vC_InvalidGraph ?sa_InvalidGraph ?ga_InvalidGraph ?gg_InvalidGraph ?nf_InvalidGraph_value ?iC_InvalidGraph ?tI_InvalidGraph ?lI_InvalidGraph ?cI_InvalidGraph ?kI_InvalidGraph ?kC_InvalidGraph ?eC_InvalidGraph ?tC_InvalidGraph ?hC_InvalidGraph ?jC_InvalidGraph ?sC_InvalidGraph
    (case p_is_integer => k_is)
    (case l_is_integer => k_is)
    (case c_is_integer => k_is)
    (case k_is_integer => k_is)
    (case p_is_row => k_is)
    (case l_is_row => k_is)
    (case c_is_row => k_is)
    (case k_is_row => k_is)
    (case p_is_graph => k_is)
    (case l_is_graph => k_is)
    (case c_is_graph => k_is)
    (case k_is_graph => k_is)
    (case p_check_graph => k_is)
    (case l_check_graph => k_is)
    (case c_check_graph => k_is)
    (case k_check_graph => k_is)
    (case p_nodes_of => k_is)
    (case l_nodes_of => k_is)
    (case c_nodes_of => k_is)
    (case k_nodes_of => k_is)
    (case p_is_schedule => k_is)
    (case l_is_schedule => k_is)
    (case c_is_schedule => k_is)
    (case k_is_schedule => k_is)
    (case p_is_free => k_is)
    (case l_is_free => k_is)
    (case c_is_free => k_is)
    (case k_is_free => k_is)
    (case p_free_nodes => k_is)
    (case l_free_nodes => k_is)
    (case c_free_nodes => k_is)
    (case k_free_nodes => k_is)
    (case p_is_greedy => k_is)
    (case l_is_greedy => k_is)
    (case c_is_greedy => k_is)
    (case k_is_greedy => k_is)
    (case p_listed => k_is)
    (case l_listed => k_is)
    (case c_listed => k_is)
    (case k_listed => k_is)
    (case p_cut_down => k_is)
    (case l_cut_down => k_is)
    (case c_cut_down => k_is)
    (case k_cut_down => k_is)
    (case p__law_whole => k_is)
    (case l__law_whole => k_is)
    (case c__law_whole => k_is)
    (case k__law_whole => k_is)
    (case p__law_cell => k_is)
    (case l__law_cell => k_is)
    (case c__law_cell => k_is)
    (case k__law_cell => k_is)
    (case p__law_draws => k_is)
    (case l__law_draws => k_is)
    (case c__law_draws => k_is)
    (case k__law_draws => k_is)
    (case p__law_graph => k_is)
    (case l__law_graph => k_is)
    (case c__law_graph => k_is)
    (case k__law_graph => k_is)
    (case p__law_free => k_is)
    (case l__law_free => k_is)
    (case c__law_free => k_is)
    (case k__law_free => k_is)
    (case p__law_listed => k_is)
    (case l__law_listed => k_is)
    (case c__law_listed => k_is)
    (case k__law_listed => k_is)
    (case p__law_drawn => k_is)
    (case l__law_drawn => k_is)
    (case c__law_drawn => k_is)
    (case k__law_drawn => k_is)
    (case p__law_is_schedule => k_is)
    (case l__law_is_schedule => k_is)
    (case c__law_is_schedule => k_is)
    (case k__law_is_schedule => k_is)
    (case p__law_is_greedy => k_is)
    (case l__law_is_greedy => k_is)
    (case c__law_is_greedy => k_is)
    (case k__law_is_greedy => k_is)
    (case p_law => k_is)
    (case l_law => k_is)
    (case c_law => k_is)
    (case k_law => k_is)
    (case z_abs => k_is)
    (case z_all => k_is)
    (case z_bool => k_is)
    (case z_enumerate => k_is)
    (case z_int => k_is)
    (case z_isinstance => k_is)
    (case z_len => k_is)
    (case z_list => k_is)
    (case z_max => k_is)
    (case z_min => k_is)
    (case z_range => k_is)
    (case z_repr => k_is)
    (case z_set => k_is)
    (case z_sorted => k_is)
    (case z_tuple => k_is)
    (case pC_InvalidGraph => k_is)
    (case xC_InvalidGraph => k_is)
    (case vC_InvalidGraph => first | rfl | k_is)
    (case sa_InvalidGraph => k_is)
    (case ga_InvalidGraph => k_is)
    (case gg_InvalidGraph => k_is)
    (case nf_InvalidGraph_value => k_is)
    (case iC_InvalidGraph => k_is)
    (case tI_InvalidGraph => k_is)
    (case lI_InvalidGraph => k_is)
    (case cI_InvalidGraph => k_is)
    (case kI_InvalidGraph => k_is)
    (case kC_InvalidGraph => k_is)
    (case eC_InvalidGraph => k_is)
    (case tC_InvalidGraph => k_is)
    (case hC_InvalidGraph => k_is)
    (case jC_InvalidGraph => k_is)
    (case sC_InvalidGraph => first | rfl | k_is)

