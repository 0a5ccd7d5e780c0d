import PyProof.Rows.All
import Wide.All
import OpenK.AllK
import Wide.FinOn
import HandS.ForSpec
import HandS.ForMost
import HandS.IsInst
import HandS.Wide
import HandS.Flow
import HandS.ForExc
import HandS.Lambda
import HandS.StrMore
import HandS.WideBits
import HandS.CallSlots
import HandS.SetKeys
import KE.DataMinMax
import KE.SortData
import HandS.Defaults
import HandS.MakeKwOnly
import HandS.RaiseMore
import HandS.ExcIs
import HandS.Style
import HandS.TupMul
import KE.KExcIs
import HandS.ExcInit
import HandS.ExcField
import HandS.EndOwn
import KE.KxIndex
import KE.DataCmp
import HandS.Conv
import HandS.More
import KE.KDictDisplayH
import OpenK.KOps
import HandS.Iter
import KE.GoesMore
import HandS.TupAny
import KE.KxField
import HandS.FStr
import HandS.IntHex
import KE.KDictZip
import HandS.Zip
import KE.GoesRaise
import KE.GoesZip
import HandS.SetFor
import HandS.Strs
import HandS.Gcd
import PySem.Challenge.RW_barscribe_k85_delays_that_clash
set_option Elab.async false
set_option linter.all false
set_option maxRecDepth 100000
namespace DV
open PySem L2

/-! ### data, the store, runs -/
inductive D where
  | non | bl (b : Bool) | int (i : Int) | str (x : Str) | tup (xs : List D) | obj (n : Nat) | adr (a : Addr) | ty (n : String) | fz (xs : List D) | exc (c : Addr) (ks : List Str) (ds : List D)
inductive DO where
  | lst (xs : List D) | ins (C : Addr) (fs : List (Str × D)) | dK (kvs : List (Key × D)) | dT (kvs : List (List Key × D)) | tab (P : Addr) (q : Str)
abbrev Sto := List DO
/-- an exception: its class, its fields -/
structure Xc where
  cls : Addr
  fs : List (Str × D)
abbrev Rs (α : Type) := Option (Except Xc α × Sto)
abbrev M (α : Type) := Sto → Rs α
abbrev Dn := List (Option D)
abbrev FnD := List D → M D

/-! ### how data lie in the heap -/
/-- a list that nobody changes: locked, or written -/
def FzL (K : PySem.W.Frag) (H : Hp) (a : Addr) (vs : List V) : Prop := (∃ o, H a = some (.frz o (.lst vs))) ∨ SqL K (fun _ => none) a vs
/-- an exception object of the class cls with the dict d, caught: it stays as it is -/
def ExK (cls : Value) (d : Option Addr) (a : Addr) : HO := .ext fun h => ∃ (oe : Obj) (vs : Array Value), h.get? a = some oe ∧ Zc cls d oe ∧ oe.data = .fields vs
/-- .. with these attributes -/
def ExV (H : Hp) (a c : Addr) (ks : List Str) (vs : List V) : Prop := ks.length = vs.length ∧ ((H a = some (ExK (.ref c) none a) ∧ ks = []) ∨ ∃ d, H a = some (ExK (.ref c) (some d) a) ∧ H d = some (.xd (ks.zip vs)))
mutual
inductive Dt (K : PySem.W.Frag) (φ : List Addr) (H : Hp) : V → D → Prop
  | non : Dt K φ H .non .non
  | bl (b : Bool) : Dt K φ H (.bl b) (.bl b)
  | int (i : Int) : Dt K φ H (.int i) (.int i)
  | str (x : Str) : Dt K φ H (.str x) (.str x)
  | tup {a : Addr} {vs : List V} {ds : List D} : SqT K H a vs → Dts K φ H vs ds → Dt K φ H (.ref a) (.tup ds)
  | obj {a : Addr} {n : Nat} : φ[n]? = some a → Dt K φ H (.ref a) (.obj n)
  | adr (a : Addr) : Dt K φ H (.ref a) (.adr a)
  | ty (n : String) : Dt K φ H (.ty n) (.ty n)
  | fz {a : Addr} {vs : List V} {ds : List D} : FzL K H a vs → Dts K φ H vs ds → Dt K φ H (.ref a) (.fz ds)
  | exc {a c : Addr} {ks : List Str} {vs : List V} {ds : List D} : ExV H a c ks vs → Dts K φ H vs ds → Dt K φ H (.ref a) (.exc c ks ds)
inductive Dts (K : PySem.W.Frag) (φ : List Addr) (H : Hp) : List V → List D → Prop
  | nil : Dts K φ H [] []
  | cons {v : V} {vs : List V} {d : D} {ds : List D} : Dt K φ H v d → Dts K φ H vs ds → Dts K φ H (v :: vs) (d :: ds)
end
/-- fields, entries -/
inductive Prs {κ : Type} (R : V → D → Prop) : List (κ × V) → List (κ × D) → Prop
  | nil : Prs R [] []
  | cons {k : κ} {v : V} {vs : List (κ × V)} {d : D} {ds : List (κ × D)} : R v d → Prs R vs ds → Prs R ((k, v) :: vs) ((k, d) :: ds)
def Ob (K : PySem.W.Frag) (φ : List Addr) (H : Hp) (a : Addr) : DO → Prop
  | .lst xs => ∃ vs, H a = some (.lst vs) ∧ Dts K φ H vs xs
  | .ins C fs => ∃ dx vs, H a = some (.ins C dx vs) ∧ Prs (Dt K φ H) vs fs
  | .dK kvs => ∃ vs, H a = some (.dK vs) ∧ Prs (Dt K φ H) vs kvs
  | .dT kvs => ∃ vs, H a = some (.dT vs) ∧ Prs (Dt K φ H) vs kvs
  | .tab P q => a = P ∧ LamX.TabS H P q
structure So (K : PySem.W.Frag) (φ : List Addr) (H : Hp) (s : Sto) : Prop where
  len : s.length = φ.length
  nd : φ.Nodup
  ob : ∀ (n : Nat) (o : DO), s[n]? = some o → ∃ a, φ[n]? = some a ∧ Ob K φ H a o
/-- what comes later: more objects, the tuples stand -/
structure Fu (K : PySem.W.Frag) (φ φ' : List Addr) (H H' : Hp) : Prop where
  pre : ∃ t, φ ++ t = φ'
  go : ∀ a xs, SqT K H a xs → SqT K H' a xs
  gf : ∀ a xs, FzL K H a xs → FzL K H' a xs
  ge : ∀ a f, H a = some (.ext f) → H' a = some (.ext f)
  gd : ∀ a f, H a = some (.xd f) → H' a = some (.xd f)
section
variable {K : PySem.W.Frag} {φ φ' φ'' : List Addr} {H H' H'' : Hp} {v : V} {vs : List V} {d : D} {ds : List D} {s s' : Sto}
theorem Fu.refl (φ : List Addr) (H : Hp) : Fu K φ φ H H := ⟨⟨[], List.append_nil _⟩, fun _ _ h => h, fun _ _ h => h, fun _ _ h => h, fun _ _ h => h⟩
theorem Fu.gx (f : Fu K φ φ' H H') {a c : Addr} {ks : List Str} {vs : List V} (h : ExV H a c ks vs) : ExV H' a c ks vs := by
  obtain ⟨q0, q⟩ := h
  refine ⟨q0, ?_⟩
  rcases q with ⟨q, e⟩ | ⟨d, q, e⟩
  · exact .inl ⟨f.ge _ _ q, e⟩
  · exact .inr ⟨d, f.ge _ _ q, f.gd _ _ e⟩
theorem Fu.trans (a : Fu K φ φ' H H') (b : Fu K φ' φ'' H' H'') : Fu K φ φ'' H H'' := by
  obtain ⟨⟨t, rfl⟩, g, k, x, y⟩ := a
  obtain ⟨⟨u, rfl⟩, g', k', x', y'⟩ := b
  exact ⟨⟨t ++ u, by rw [List.append_assoc]⟩, fun a xs h => g' a xs (g a xs h), fun a xs h => k' a xs (k a xs h), fun a c h => x' a c (x a c h), fun a c h => y' a c (y a c h)⟩
theorem Fu.get (f : Fu K φ φ' H H') {n : Nat} {a : Addr} (h : φ[n]? = some a) : φ'[n]? = some a := by
  obtain ⟨⟨t, rfl⟩, _, _, _, _⟩ := f
  rw [List.getElem?_append_left (List.getElem?_eq_some_iff.mp h).1]
  exact h
mutual
theorem Dt.fu (f : Fu K φ φ' H H') : ∀ {v : V} {d : D}, Dt K φ H v d → Dt K φ' H' v d
  | _, _, .non => .non
  | _, _, .bl b => .bl b
  | _, _, .int i => .int i
  | _, _, .str x => .str x
  | _, _, .tup h r => .tup (f.go _ _ h) (Dts.fu f r)
  | _, _, .obj h => .obj (f.get h)
  | _, _, .adr a => .adr a
  | _, _, .ty n => .ty n
  | _, _, .fz h r => .fz (f.gf _ _ h) (Dts.fu f r)
  | _, _, .exc h r => .exc (f.gx h) (Dts.fu f r)
theorem Dts.fu (f : Fu K φ φ' H H') : ∀ {vs : List V} {ds : List D}, Dts K φ H vs ds → Dts K φ' H' vs ds
  | _, _, .nil => .nil
  | _, _, .cons h r => .cons (Dt.fu f h) (Dts.fu f r)
end
theorem Prs.fu {κ : Type} (f : Fu K φ φ' H H') : ∀ {vs : List (κ × V)} {ds : List (κ × D)}, Prs (Dt K φ H) vs ds → Prs (Dt K φ' H') vs ds
  | _, _, .nil => .nil
  | _, _, .cons h r => .cons (h.fu f) (Prs.fu f r)
theorem Dts.length : ∀ {vs : List V} {ds : List D}, Dts K φ H vs ds → vs.length = ds.length
  | _, _, .nil => rfl
  | _, _, .cons _ r => congrArg (· + 1) (Dts.length r)
theorem Dts.get : ∀ {vs : List V} {ds : List D} {i : Nat} {d : D}, Dts K φ H vs ds → ds[i]? = some d → ∃ v, vs[i]? = some v ∧ Dt K φ H v d
  | _, _, 0, _, .cons h _, e => ⟨_, rfl, by cases e; exact h⟩
  | _, _, i + 1, _, .cons _ r, e => Dts.get (i := i) r e
theorem Dts.get' : ∀ {vs : List V} {ds : List D} {i : Nat} {v : V}, Dts K φ H vs ds → vs[i]? = some v → ∃ d, ds[i]? = some d ∧ Dt K φ H v d
  | _, _, 0, _, .cons h _, e => ⟨_, rfl, by cases e; exact h⟩
  | _, _, i + 1, _, .cons _ r, e => Dts.get' (i := i) r e
theorem Dts.append : ∀ {vs ws : List V} {ds es : List D}, Dts K φ H vs ds → Dts K φ H ws es → Dts K φ H (vs ++ ws) (ds ++ es)
  | _, _, _, _, .nil, r => r
  | _, _, _, _, .cons h r, q => .cons h (Dts.append r q)
theorem Dts.set {v : V} {d : D} (q : Dt K φ H v d) : ∀ {vs : List V} {ds : List D} (i : Nat), Dts K φ H vs ds → Dts K φ H (vs.set i v) (ds.set i d)
  | _, _, _, .nil => .nil
  | _, _, 0, .cons _ r => .cons q r
  | _, _, i + 1, .cons h r => .cons h (Dts.set q i r)
theorem Dts.take : ∀ {vs : List V} {ds : List D} (n : Nat), Dts K φ H vs ds → Dts K φ H (vs.take n) (ds.take n)
  | _, _, 0, _ => .nil
  | _, _, _ + 1, .nil => .nil
  | _, _, n + 1, .cons h r => .cons h (Dts.take n r)
theorem Dts.drop : ∀ {vs : List V} {ds : List D} (n : Nat), Dts K φ H vs ds → Dts K φ H (vs.drop n) (ds.drop n)
  | _, _, 0, r => r
  | _, _, _ + 1, .nil => .nil
  | _, _, n + 1, .cons _ r => Dts.drop n r
theorem Dts.ints : ∀ {vs : List V} {ns : List Int}, Dts K φ H vs (ns.map D.int) → vs = ns.map V.int
  | [], [], _ => rfl
  | _, _ :: _, .cons (.int _) r => congrArg (_ :: ·) (Dts.ints r)
theorem Dts.of_ints : ∀ ns : List Int, Dts K φ H (ns.map V.int) (ns.map D.int)
  | [] => .nil
  | i :: r => .cons (.int i) (Dts.of_ints r)
/-- an object of the store -/
theorem So.at (h : So K φ H s) {n : Nat} {o : DO} (e : s[n]? = some o) : ∃ a, φ[n]? = some a ∧ Ob K φ H a o := h.ob n o e
theorem So.lst (h : So K φ H s) {n : Nat} {xs : List D} (e : s[n]? = some (.lst xs)) {a : Addr} (ha : φ[n]? = some a) : ∃ vs, H a = some (.lst vs) ∧ Dts K φ H vs xs := by
  obtain ⟨b, hb, q⟩ := h.ob _ _ e
  rw [ha] at hb
  cases hb
  exact q
theorem Ob.some {a : Addr} {o : DO} (h : Ob K φ H a o) : ∃ u, H a = some u ∧ (∀ xs, u ≠ .tup xs) ∧ (∀ o w, u ≠ .frz o w) ∧ (∀ f, u ≠ .ext f) ∧ ∀ f, u ≠ .xd f := by
  cases o with
  | lst xs => obtain ⟨vs, e, _⟩ := h; exact ⟨_, e, fun _ => nofun, fun _ _ => nofun, fun _ => nofun, fun _ => nofun⟩
  | ins C fs => obtain ⟨dx, vs, e, _⟩ := h; exact ⟨_, e, fun _ => nofun, fun _ _ => nofun, fun _ => nofun, fun _ => nofun⟩
  | dK kvs => obtain ⟨vs, e, _⟩ := h; exact ⟨_, e, fun _ => nofun, fun _ _ => nofun, fun _ => nofun, fun _ => nofun⟩
  | dT kvs => obtain ⟨vs, e, _⟩ := h; exact ⟨_, e, fun _ => nofun, fun _ _ => nofun, fun _ => nofun, fun _ => nofun⟩
  | tab P q => obtain ⟨rfl, ps, e, _⟩ := h; exact ⟨_, e, fun _ => nofun, fun _ _ => nofun, fun _ => nofun, fun _ => nofun⟩
/-- at an address that holds no tuple and nothing locked a thing may be written -/
theorem go_upd {p : Addr} {o : HO} (h1 : ∀ xs, H p ≠ some (.tup xs)) (h2 : ∀ ob w, H p ≠ some (.frz ob w)) : ∀ a xs, SqT K H a xs → SqT K (upd H p o) a xs := fun a xs q => by
  rcases q with (q | ⟨ob, q⟩) | q
  · have ne : a ≠ p := fun z => by subst z; exact h1 _ q
    exact .inl (.inl (by rw [upd_ne ne]; exact q))
  · have ne : a ≠ p := fun z => by subst z; exact h2 _ _ q
    exact .inl (.inr ⟨ob, by rw [upd_ne ne]; exact q⟩)
  · exact .inr q
theorem gf_upd {p : Addr} {o : HO} (h2 : ∀ ob w, H p ≠ some (.frz ob w)) : ∀ a xs, FzL K H a xs → FzL K (upd H p o) a xs := fun a xs q => by
  rcases q with ⟨ob, q⟩ | q
  · have ne : a ≠ p := fun z => by subst z; exact h2 _ _ q
    exact .inl ⟨ob, by rw [upd_ne ne]; exact q⟩
  · exact .inr q
theorem ge_upd {p : Addr} {o : HO} (h1 : ∀ f, H p ≠ some (.ext f)) : ∀ a f, H a = some (.ext f) → upd H p o a = some (.ext f) := fun a f q => by
  have ne : a ≠ p := fun z => by subst z; exact h1 _ q
  rw [upd_ne ne]; exact q
theorem gd_upd {p : Addr} {o : HO} (h1 : ∀ f, H p ≠ some (.xd f)) : ∀ a f, H a = some (.xd f) → upd H p o a = some (.xd f) := fun a f q => by
  have ne : a ≠ p := fun z => by subst z; exact h1 _ q
  rw [upd_ne ne]; exact q
theorem none_updx {p : Addr} (h : H p = none) : (∀ f, H p ≠ some (.ext f)) ∧ ∀ f, H p ≠ some (.xd f) := ⟨fun xs e => (by rw [h] at e; cases e), fun w e => (by rw [h] at e; cases e)⟩
theorem FzL.sq {a : Addr} {vs : List V} (h : FzL K H a vs) : SqL K H a vs := by
  rcases h with ⟨o, e⟩ | (h | h)
  · exact .inl (.inr ⟨o, e⟩)
  · rcases h with h | ⟨o, h⟩ <;> cases h
  · exact .inr h
theorem none_upd {p : Addr} (h : H p = none) : (∀ xs, H p ≠ some (.tup xs)) ∧ ∀ ob w, H p ≠ some (.frz ob w) := ⟨fun xs e => (by rw [h] at e; cases e), fun ob w e => (by rw [h] at e; cases e)⟩
theorem fu_new {p : Addr} {o : HO} (h : H p = none) : Fu K φ φ H (upd H p o) := ⟨⟨[], List.append_nil _⟩, go_upd (none_upd h).1 (none_upd h).2, gf_upd (none_upd h).2, ge_upd (none_updx h).1, gd_upd (none_updx h).2⟩
theorem fu_newO {p : Addr} {o : HO} (h : H p = none) : Fu K φ (φ ++ [p]) H (upd H p o) := ⟨⟨[p], rfl⟩, go_upd (none_upd h).1 (none_upd h).2, gf_upd (none_upd h).2, ge_upd (none_updx h).1, gd_upd (none_updx h).2⟩
theorem Ob.keep {a p : Addr} {o : DO} {u : HO} (f : Fu K φ φ' H (upd H p u)) (h : Ob K φ H a o) (ne : a ≠ p) : Ob K φ' (upd H p u) a o := by
  cases o with
  | lst xs => obtain ⟨vs, e, r⟩ := h; exact ⟨vs, by rw [upd_ne ne]; exact e, r.fu f⟩
  | ins C fs => obtain ⟨dx, vs, e, r⟩ := h; exact ⟨dx, vs, by rw [upd_ne ne]; exact e, r.fu f⟩
  | dK kvs => obtain ⟨vs, e, r⟩ := h; exact ⟨vs, by rw [upd_ne ne]; exact e, r.fu f⟩
  | dT kvs => obtain ⟨vs, e, r⟩ := h; exact ⟨vs, by rw [upd_ne ne]; exact e, r.fu f⟩
  | tab P q =>
    obtain ⟨rfl, ps, e, ok, named⟩ := h
    exact ⟨rfl, ps, by rw [upd_ne ne]; exact e, ok, fun pos cv among => by
      obtain ⟨c, z1, z2⟩ := named pos cv among
      exact ⟨c, z1, f.ge _ _ z2⟩⟩
theorem So.addr (h : So K φ H s) {a : Addr} (ha : a ∈ φ) : ∃ (n : Nat) (o : DO), φ[n]? = some a ∧ s[n]? = some o ∧ Ob K φ H a o := by
  obtain ⟨n, hn⟩ := List.mem_iff_getElem?.mp ha
  have hl : n < s.length := by rw [h.len]; exact (List.getElem?_eq_some_iff.mp hn).1
  obtain ⟨b, hb, q⟩ := h.ob n s[n] (List.getElem?_eq_getElem hl)
  rw [hn] at hb
  cases hb
  exact ⟨n, s[n], hn, List.getElem?_eq_getElem hl, q⟩
theorem So.fresh (h : So K φ H s) {p : Addr} (hp : H p = none) : p ∉ φ := fun q => by
  obtain ⟨n, o, _, _, k⟩ := h.addr q
  obtain ⟨u, e, _⟩ := k.some
  rw [hp] at e
  cases e
/-- a new object that is no object of the store (a tuple) -/
theorem So.new (h : So K φ H s) {p : Addr} {u : HO} (hp : H p = none) : So K φ (upd H p u) s := ⟨h.len, h.nd, fun n o e => by
  obtain ⟨a, ha, q⟩ := h.ob n o e
  exact ⟨a, ha, q.keep (fu_new hp) (by
    obtain ⟨z, e, _⟩ := q.some
    exact ne_of_none e hp)⟩⟩
/-- a new object of the store -/
theorem So.newO (h : So K φ H s) {p : Addr} {u : HO} {o : DO} (hp : H p = none) (q : Ob K (φ ++ [p]) (upd H p u) p o) : So K (φ ++ [p]) (upd H p u) (s ++ [o]) := by
  refine ⟨by simp [h.len], ?_, fun n o' e => ?_⟩
  · rw [List.nodup_append]
    exact ⟨h.nd, by simp, fun a ha b hb z => by
      rw [List.mem_singleton] at hb
      subst hb z
      exact h.fresh hp ha⟩
  · by_cases hn : n < s.length
    · rw [List.getElem?_append_left hn] at e
      obtain ⟨a, ha, k⟩ := h.ob n o' e
      refine ⟨a, by rw [List.getElem?_append_left (by rw [← h.len]; exact hn)]; exact ha, k.keep (fu_newO hp) ?_⟩
      obtain ⟨z, e, _⟩ := k.some
      exact ne_of_none e hp
    · have hl := (List.getElem?_eq_some_iff.mp e).1
      rw [List.length_append, List.length_singleton] at hl
      obtain rfl : n = s.length := by omega
      rw [List.getElem?_append_right (Nat.le_refl _)] at e
      simp at e
      subst e
      exact ⟨p, by rw [h.len, List.getElem?_append_right (Nat.le_refl _)]; simp, q⟩
/-- an object of the store is changed -/
theorem fu_set (h : So K φ H s) {n : Nat} {a : Addr} {u : HO} (ha : φ[n]? = some a) : Fu K φ φ H (upd H a u) := by
  obtain ⟨m, o, _, _, q⟩ := h.addr (List.mem_of_getElem? ha)
  obtain ⟨z, e, k1, k2, k3, k4⟩ := q.some
  have q1 : ∀ xs, H a ≠ some (.tup xs) := fun xs e' => by rw [e] at e'; cases e'; exact k1 _ rfl
  have q2 : ∀ ob w, H a ≠ some (.frz ob w) := fun ob w e' => by rw [e] at e'; cases e'; exact k2 _ _ rfl
  have q3 : ∀ f, H a ≠ some (.ext f) := fun xs e' => by rw [e] at e'; cases e'; exact k3 _ rfl
  have q4 : ∀ f, H a ≠ some (.xd f) := fun xs e' => by rw [e] at e'; cases e'; exact k4 _ rfl
  exact ⟨⟨[], List.append_nil _⟩, go_upd q1 q2, gf_upd q2, ge_upd q3, gd_upd q4⟩
theorem So.set (h : So K φ H s) {n : Nat} {a : Addr} {u : HO} {o : DO} (ha : φ[n]? = some a) (q : Ob K φ (upd H a u) a o) : So K φ (upd H a u) (s.set n o) := by
  refine ⟨by rw [List.length_set, h.len], h.nd, fun m o' e => ?_⟩
  by_cases hm : m = n
  · subst hm
    have hl : m < s.length := by
      have := (List.getElem?_eq_some_iff.mp e).1
      rwa [List.length_set] at this
    rw [List.getElem?_set_self hl] at e
    cases e
    exact ⟨a, ha, q⟩
  · rw [List.getElem?_set_ne (fun z => hm z.symm)] at e
    obtain ⟨b, hb, k⟩ := h.ob m o' e
    refine ⟨b, hb, k.keep (fu_set h ha) fun z => hm ?_⟩
    subst z
    exact (List.getElem?_inj (List.getElem?_eq_some_iff.mp hb).1 h.nd).mp (hb.trans ha.symm)
end

/-! ### the names -/
structure Sg (K : PySem.W.Frag) (φ : List Addr) (H : Hp) (σ : L2.St) (Δ : Dn) : Prop where
  len : σ.length = Δ.length
  get : ∀ (i : Nat) (d : D), Δ[i]? = some (some d) → ∃ v, σ[i]? = some (some v) ∧ Dt K φ H v d
section
variable {K : PySem.W.Frag} {φ φ' : List Addr} {H H' : Hp} {σ : L2.St} {Δ : Dn}
theorem Sg.fu (f : Fu K φ φ' H H') (h : Sg K φ H σ Δ) : Sg K φ' H' σ Δ := ⟨h.len, fun i d e => by
  obtain ⟨v, h1, h2⟩ := h.get i d e
  exact ⟨v, h1, h2.fu f⟩⟩
theorem Sg.set (h : Sg K φ H σ Δ) {v : V} {d : D} (q : Dt K φ H v d) (i : Nat) : Sg K φ H (σ.set i (some v)) (Δ.set i (some d)) := by
  refine ⟨by rw [List.length_set, List.length_set, h.len], fun j e hj => ?_⟩
  by_cases z : j = i
  · subst z
    have hl : j < Δ.length := by
      have := (List.getElem?_eq_some_iff.mp hj).1
      rwa [List.length_set] at this
    rw [List.getElem?_set_self hl] at hj
    cases hj
    exact ⟨v, by rw [List.getElem?_set_self (by rw [h.len]; exact hl)], q⟩
  · rw [List.getElem?_set_ne (fun w => z w.symm)] at hj ⊢
    exact h.get j e hj
theorem Sg.forget (h : Sg K φ H σ Δ) (i : Nat) (o : Option V) : Sg K φ H (σ.set i o) (Δ.set i none) := by
  refine ⟨by rw [List.length_set, List.length_set, h.len], fun j e hj => ?_⟩
  by_cases z : j = i
  · subst z
    have hl : j < Δ.length := by
      have := (List.getElem?_eq_some_iff.mp hj).1
      rwa [List.length_set] at this
    rw [List.getElem?_set_self hl] at hj
    cases hj
  · rw [List.getElem?_set_ne (fun w => z w.symm)] at hj ⊢
    exact h.get j e hj
def startD (n : Nat) (ds : List D) : Dn := ds.map some ++ List.replicate (n - ds.length) none
theorem Sg.start {N : List Str} {vs : List V} {ds : List D} (r : Dts K φ H vs ds) : Sg K φ H (L2.start N vs) (startD N.length ds) := by
  have hl := r.length
  refine ⟨?_, fun i d e => ?_⟩
  · unfold L2.start startD
    rw [List.length_append, List.length_append, List.length_map, List.length_map, hl]
    simp
  · unfold startD at e
    have hi : i < ds.length := by
      by_cases hi : i < ds.length
      · exact hi
      · rw [List.getElem?_append_right (by simpa using hi), List.getElem?_replicate] at e
        split at e <;> cases e
    rw [List.getElem?_append_left (by simpa using hi), List.getElem?_map] at e
    have e' : ds[i]? = some d := by
      cases q : ds[i]? with
      | none => rw [q] at e; cases e
      | some x => rw [q] at e; cases e; rfl
    obtain ⟨v, hv, k⟩ := r.get e'
    refine ⟨v, ?_, k⟩
    unfold L2.start
    rw [List.getElem?_append_left (by simpa [hl] using hi), List.getElem?_map, hv]
    rfl
end
/-- an exception lies -/
def Xr (K : PySem.W.Frag) (φ : List Addr) (H : Hp) (cls : Value) (dd : Option Addr) (x : Xc) : Prop :=
  cls = .ref x.cls ∧ ((dd = none ∧ x.fs = []) ∨ ∃ a vs, dd = some a ∧ H a = some (.xd vs) ∧ Prs (Dt K φ H) vs x.fs)
end DV

namespace DV
open PySem L2 PyProof.Rows

/-! ### runs, and what they promise -/
def mret {α : Type} (a : α) : M α := fun s => some (.ok a, s)
def mbind {α β : Type} (m : M α) (k : α → M β) : M β := fun s => match m s with
  | some (.ok a, s') => k a s'
  | some (.error x, s') => some (.error x, s')
  | none => none
def mfail {α : Type} : M α := fun _ => none
abbrev WK := Value → Option Addr → Hp → Prop
/-- behind a run: C of what it gives, W of what it raises -/
def Ps (K : PySem.W.Frag) (W : WK) {α β : Type} (R : List Addr → Hp → β → α → Prop) (φ : List Addr) (H : Hp) (C : List Addr → β → Hp → α → Sto → Prop) : Rs α → Prop
  | some (.ok a, s') => ∀ φ' b H', Fu K φ φ' H H' → So K φ' H' s' → R φ' H' b a → C φ' b H' a s'
  | some (.error x, s') => ∀ φ' H' cls dd, Fu K φ φ' H H' → So K φ' H' s' → Xr K φ' H' cls dd x → W cls dd H'
  | none => False
section
variable {K : PySem.W.Frag} {W : WK} {α β γ δ : Type} {R : List Addr → Hp → β → α → Prop} {R' : List Addr → Hp → δ → γ → Prop} {φ φ' : List Addr} {H H' : Hp} {s : Sto}
theorem Ps.shift {C : List Addr → β → Hp → α → Sto → Prop} (f : Fu K φ φ' H H') : ∀ {r : Rs α}, Ps K W R φ H C r → Ps K W R φ' H' C r
  | some (.ok a, s'), h => fun ψ b G g so q => h ψ b G (f.trans g) so q
  | some (.error x, s'), h => fun ψ G cls dd g so q => h ψ G cls dd (f.trans g) so q
  | none, h => h
theorem Ps.bind {C : List Addr → δ → Hp → γ → Sto → Prop} {m : M α} {k : α → M γ} (h : Ps K W R' φ H C (mbind m k s)) :
    Ps K W R φ H (fun φ1 b H1 a s1 => Fu K φ φ1 H H1 ∧ So K φ1 H1 s1 ∧ R φ1 H1 b a ∧ Ps K W R' φ1 H1 C (k a s1)) (m s) := by
  unfold mbind at h
  cases e : m s with
  | none => rw [e] at h; exact h.elim
  | some p =>
    obtain ⟨r, s'⟩ := p
    cases r with
    | ok a => rw [e] at h; exact fun ψ b G g so q => ⟨g, so, q, h.shift g⟩
    | error x => rw [e] at h; exact h
theorem Ps.mono {C C' : List Addr → β → Hp → α → Sto → Prop} (f : ∀ φ' b H' a s', C φ' b H' a s' → C' φ' b H' a s') : ∀ {r : Rs α}, Ps K W R φ H C r → Ps K W R φ H C' r
  | some (.ok a, s'), h => fun ψ b G g so q => f _ _ _ _ _ (h ψ b G g so q)
  | some (.error x, s'), h => h
  | none, h => h
end

/-! ### readings from runs -/
abbrev DX := Dn → M D
abbrev DT := Dn → M Bool
abbrev DA := Dn → M (List D)
def wAt (W : WX) (σ : L2.St) : WK := fun c d H => W c d σ H
def upE (K : PySem.W.Frag) (W : WX) (de : DX) : TE := fun σ H Q => ∃ Δ φ s, Sg K φ H σ Δ ∧ So K φ H s ∧ Ps K (wAt W σ) (Dt K) φ H (fun _ v H' _ _ => Q v H') (de Δ s)
def upT (K : PySem.W.Frag) (W : WX) (dt : DT) : TT := fun σ H Q => ∃ Δ φ s, Sg K φ H σ Δ ∧ So K φ H s ∧ Ps K (wAt W σ) (fun _ _ (b b' : Bool) => b = b') φ H (fun _ v H' _ _ => Q v H') (dt Δ s)
def upA (K : PySem.W.Frag) (W : WX) (da : DA) : TA := fun σ H Q => ∃ Δ φ s, Sg K φ H σ Δ ∧ So K φ H s ∧ Ps K (wAt W σ) (Dts K) φ H (fun _ v H' _ _ => Q v H') (da Δ s)
def DE (X : Cx) (W : WX) (e : Expr) (de : DX) : Prop := PE X e (upE X.K W de)
def DTe (X : Cx) (W : WX) (e : Expr) (dt : DT) : Prop := PT X e (upT X.K W dt)
def DW (X : Cx) (W : WX) (e : Expr) (dt : DT) : Prop := PW X e (upT X.K W dt)
def DAs (X : Cx) (W : WX) (es : List Expr) (da : DA) : Prop := PA X es (upA X.K W da)
theorem pe_imp {X : Cx} {e : Expr} {t t' : TE} (h : PE X e t) (f : ∀ σ H Q, t' σ H Q → t σ H Q) : PE X e t' := ⟨fun pins s σ H Q I q => h.run pins s σ H Q I (f _ _ _ q)⟩
theorem pt_imp {X : Cx} {e : Expr} {t t' : TT} (h : PT X e t) (f : ∀ σ H Q, t' σ H Q → t σ H Q) : PT X e t' := ⟨fun pins s σ H Q I q => h.run pins s σ H Q I (f _ _ _ q)⟩
theorem pw_imp {X : Cx} {e : Expr} {t t' : TT} (h : PW X e t) (f : ∀ σ H Q, t' σ H Q → t σ H Q) : PW X e t' := ⟨fun whole pins s σ H Q I q => h.run whole pins s σ H Q I (f _ _ _ q)⟩
theorem pa_imp {X : Cx} {e : List Expr} {t t' : TA} (h : PA X e t) (f : ∀ σ H Q, t' σ H Q → t σ H Q) : PA X e t' := ⟨fun pos pins s σ H Q I q => h.run pos pins s σ H Q I (f _ _ _ q)⟩
/-- the first of two runs: what it wants of the reading of the rest -/
theorem upE_bind {K : PySem.W.Frag} {W : WX} {γ δ : Type} {R' : List Addr → Hp → δ → γ → Prop} {σ : L2.St} {Δ : Dn} {φ : List Addr} {H : Hp} {s : Sto} {C : List Addr → δ → Hp → γ → Sto → Prop} {de : DX} {k : D → M γ} {Q : VK} (hσ : Sg K φ H σ Δ) (hs : So K φ H s)
    (h : Ps K (wAt W σ) R' φ H C (mbind (de Δ) k s)) (q : ∀ φ1 v H1 d s1, Fu K φ φ1 H H1 → Sg K φ1 H1 σ Δ → So K φ1 H1 s1 → Dt K φ1 H1 v d → Ps K (wAt W σ) R' φ1 H1 C (k d s1) → Q v H1) : upE K W de σ H Q :=
  ⟨Δ, φ, s, hσ, hs, Ps.mono (fun φ1 v H1 d s1 z => q φ1 v H1 d s1 z.1 (hσ.fu z.1) z.2.1 z.2.2.1 z.2.2.2) (Ps.bind h)⟩
theorem upT_bind {K : PySem.W.Frag} {W : WX} {γ δ : Type} {R' : List Addr → Hp → δ → γ → Prop} {σ : L2.St} {Δ : Dn} {φ : List Addr} {H : Hp} {s : Sto} {C : List Addr → δ → Hp → γ → Sto → Prop} {de : DT} {k : Bool → M γ} {Q : Bool → Hp → Prop} (hσ : Sg K φ H σ Δ) (hs : So K φ H s)
    (h : Ps K (wAt W σ) R' φ H C (mbind (de Δ) k s)) (q : ∀ φ1 H1 d s1, Fu K φ φ1 H H1 → Sg K φ1 H1 σ Δ → So K φ1 H1 s1 → Ps K (wAt W σ) R' φ1 H1 C (k d s1) → Q d H1) : upT K W de σ H Q :=
  ⟨Δ, φ, s, hσ, hs, Ps.mono (fun φ1 v H1 d s1 z => by
    obtain ⟨z1, z2, z3, z4⟩ := z
    subst z3
    exact q φ1 H1 _ s1 z1 (hσ.fu z1) z2 z4) (Ps.bind h)⟩
theorem upA_bind {K : PySem.W.Frag} {W : WX} {γ δ : Type} {R' : List Addr → Hp → δ → γ → Prop} {σ : L2.St} {Δ : Dn} {φ : List Addr} {H : Hp} {s : Sto} {C : List Addr → δ → Hp → γ → Sto → Prop} {de : DA} {k : List D → M γ} {Q : List V → Hp → Prop} (hσ : Sg K φ H σ Δ) (hs : So K φ H s)
    (h : Ps K (wAt W σ) R' φ H C (mbind (de Δ) k s)) (q : ∀ φ1 v H1 d s1, Fu K φ φ1 H H1 → Sg K φ1 H1 σ Δ → So K φ1 H1 s1 → Dts K φ1 H1 v d → Ps K (wAt W σ) R' φ1 H1 C (k d s1) → Q v H1) : upA K W de σ H Q :=
  ⟨Δ, φ, s, hσ, hs, Ps.mono (fun φ1 v H1 d s1 z => q φ1 v H1 d s1 z.1 (hσ.fu z.1) z.2.1 z.2.2.1 z.2.2.2) (Ps.bind h)⟩
/-- the end of a run that gives d -/
theorem Ps.ok {K : PySem.W.Frag} {W : WK} {α β : Type} {R : List Addr → Hp → β → α → Prop} {φ : List Addr} {H : Hp} {C : List Addr → β → Hp → α → Sto → Prop} {a : α} {s : Sto} (h : Ps K W R φ H C (some (.ok a, s))) {b : β} (so : So K φ H s) (r : R φ H b a) : C φ b H a s :=
  h φ b H (Fu.refl _ _) so r

/-! ### names and constants -/
def dVar (i : Nat) : DX := fun Δ s => match Δ[i]? with
  | some (some d) => some (.ok d, s)
  | _ => none
def dC (d : D) : DX := fun _ => mret d
section
variable {X : Cx} {W : WX}
theorem de_var (i : Nat) {x : Str} {pos : Pos} (hN : X.N[i]? = some x := by rfl) (hv : Vis X.env.scope x := by first | exact Or.inl rfl | exact Or.inr (Or.inl rfl) | exact Or.inr (Or.inr rfl)) (hd : (x == ("__debug__" : Str)) = false := by decide)
    (hcd : (x == ("__classdict__" : Str)) = false := by decide) : DE X W (.Name x pos) (dVar i) := pe_imp (pe_var hN hv hd hcd) fun σ H Q ⟨Δ, φ, s, hσ, hs, h⟩ => by
  unfold dVar at h
  split at h
  · rename_i d e
    obtain ⟨v, h1, h2⟩ := hσ.get i d e
    exact ⟨v, h1, h.ok hs h2⟩
  · exact h.elim
theorem de_c {e : Expr} {v : V} {d : D} (h : PE X e (tC v)) (r : ∀ φ H, Dt X.K φ H v d) : DE X W e (dC d) := pe_imp h fun σ H Q ⟨Δ, φ, s, hσ, hs, h⟩ => h.ok hs (r φ H)
theorem de_int {i j pos} : DE X W (.Constant (.int i) j pos) (dC (.int i)) := de_c pe_int fun _ _ => .int i
theorem de_bl {b j pos} : DE X W (.Constant (.bool b) j pos) (dC (.bl b)) := de_c pe_bl fun _ _ => .bl b
theorem de_non {j pos} : DE X W (.Constant .none j pos) (dC .non) := de_c pe_non fun _ _ => .non
theorem de_str {x j pos} : DE X W (.Constant (.str x) j pos) (dC (.str x)) := de_c pe_str fun _ _ => .str x
/-- a module's constant -/
theorem de_globI {x : Str} {i : Int} {t : Tok} {pos : Pos} (hg : Gl X x) (hm : X.mg x = some (.int i t)) (hd : (x == ("__debug__" : Str)) = false := by decide) : DE X W (.Name x pos) (dC (.int i)) := de_c (pe_glob (v := .int i) hg hm ⟨t, rfl⟩ hd) fun _ _ => .int i
theorem de_ty {x : Str} {n : String} {pos : Pos} (hg : Gl X x) (hm : X.mg x = none) (hv : bootBuiltins x = some (.type n)) (hn : x ≠ "__name__" := by decide) (hd : (x == ("__debug__" : Str)) = false := by decide) : DE X W (.Name x pos) (dC (.ty n)) := de_c (pe_bltn (v := .ty n) hg hm hv rfl hn hd) fun _ _ => .ty n
/-- a def, a class as a value -/
theorem de_globA {x : Str} {a : Addr} {pos : Pos} (hg : Gl X x) (hm : X.mg x = some (.ref a)) (hd : (x == ("__debug__" : Str)) = false := by decide) : DE X W (.Name x pos) (dC (.adr a)) := de_c (pe_glob (v := .ref a) hg hm rfl hd) fun _ _ => .adr a

/-! ### operators -/
abbrev Op2 := D → D → Sto → Option (D × Sto)
def lift2 (f : Op2) (x y : D) : M D := fun s => match f x y s with
  | some (d, s') => some (.ok d, s')
  | none => none
def dOp (f : Op2) (da db : DX) : DX := fun Δ => mbind (da Δ) fun x => mbind (db Δ) fun y => lift2 f x y
/-- what an operation promises -/
def PsO (K : PySem.W.Frag) (φ : List Addr) (H : Hp) (Q : VK) : Option (D × Sto) → Prop
  | some (d, s') => ∀ φ' v H', Fu K φ φ' H H' → So K φ' H' s' → Dt K φ' H' v d → Q v H'
  | none => False
theorem PsO.of {K : PySem.W.Frag} {W : WK} {φ : List Addr} {H : Hp} {Q : VK} {f : Op2} {x y : D} {s : Sto} (h : Ps K W (Dt K) φ H (fun _ v H' _ _ => Q v H') (lift2 f x y s)) : PsO K φ H Q (f x y s) := by
  unfold lift2 at h
  split at h
  · rename_i e
    rw [e]
    exact h
  · exact h.elim
/-- the operation fn on values does f on data -/
def DOp (X : Cx) (fn : Value → Value → Sem Value) (f : Op2) : Prop := ∃ r : R2, OpR X fn r ∧ ∀ φ H s x y v u Q, So X.K φ H s → Dt X.K φ H v x → Dt X.K φ H u y → PsO X.K φ H Q (f x y s) → r v u H Q
def orOp (f g : Op2) : Op2 := fun x y s => match f x y s with
  | some r => some r
  | none => g x y s
theorem DOp.or {fn : Value → Value → Sem Value} {f g : Op2} (hf : DOp X fn f) (hg : DOp X fn g) : DOp X fn (orOp f g) := by
  obtain ⟨r, h, q⟩ := hf
  obtain ⟨r', h', q'⟩ := hg
  refine ⟨_, h.or h', fun φ H s x y v u Q so rx ry p => ?_⟩
  unfold orOp at p
  split at p
  · rename_i e
    exact .inl (q φ H s x y v u Q so rx ry (by rw [e]; exact p))
  · exact .inr (q' φ H s x y v u Q so rx ry p)
theorem dop_read {f : Op2} {r : R2} (hr : ∀ φ H s x y v u Q, So X.K φ H s → Dt X.K φ H v x → Dt X.K φ H u y → PsO X.K φ H Q (f x y s) → r v u H Q) {da db : DX} {σ : L2.St} {H : Hp} {Q : VK}
    (h : upE X.K W (dOp f da db) σ H Q) : tOp r (upE X.K W da) (upE X.K W db) σ H Q := by
  obtain ⟨Δ, φ, s, hσ, hs, h⟩ := h
  exact upE_bind hσ hs h fun φ1 v H1 x s1 f1 hσ1 hs1 rx h1 => upE_bind hσ1 hs1 h1 fun φ2 u H2 y s2 f2 hσ2 hs2 ry h2 => hr φ2 H2 s2 x y v u Q hs2 (rx.fu f2) ry (PsO.of h2)
theorem de_op {op : Operator} {f : Op2} {a b : Expr} {da db : DX} {pos : Pos} (ho : DOp X (binaryOp op) f) (ha : DE X W a da) (hb : DE X W b db) : DE X W (.BinOp a op b pos) (dOp f da db) := by
  obtain ⟨r, h, hr⟩ := ho
  exact pe_imp (pe_op h ha hb) fun σ H Q q => dop_read hr q
theorem de_cmp {op : CmpOp} {f : Op2} {a b : Expr} {da db : DX} {pos : Pos} (ho : DOp X (compareOp op) f) (ha : DE X W a da) (hb : DE X W b db) (hm : behindInMarks op b = false := by first | exact nomark _ | rfl) : DE X W (.Compare a [op] [b] pos) (dOp f da db) := by
  obtain ⟨r, h, hr⟩ := ho
  exact pe_imp (pe_cmpR h ha hb hm) fun σ H Q q => dop_read hr q
/-! ### tests -/
def dBl (d : D) : M Bool := match d with
  | .bl b => mret b
  | _ => mfail
def dTest (de : DX) : DT := fun Δ => mbind (de Δ) dBl
theorem bl_read {de : DX} {σ : L2.St} {H : Hp} {Q : Bool → Hp → Prop} (h : upT X.K W (dTest de) σ H Q) : upE X.K W de σ H fun x H1 => ∃ k, x = .bl k ∧ Q k H1 := by
  obtain ⟨Δ, φ, s, hσ, hs, h⟩ := h
  refine upE_bind hσ hs h fun φ1 v H1 x s1 f1 hσ1 hs1 rx h1 => ?_
  unfold dBl at h1
  split at h1
  · cases rx
    exact ⟨_, rfl, h1.ok hs1 rfl⟩
  · exact h1.elim
theorem dt_cmp {op : CmpOp} {f : Op2} {a b : Expr} {da db : DX} {pos : Pos} (ho : DOp X (compareOp op) f) (ha : DE X W a da) (hb : DE X W b db) (hm : behindInMarks op b = false := by first | exact nomark _ | rfl) : DTe X W (.Compare a [op] [b] pos) (dTest (dOp f da db)) := by
  obtain ⟨r, h, hr⟩ := ho
  refine pt_imp (pt_cmpR h ha hb hm) fun σ H Q q => ?_
  obtain ⟨Δ, φ, s, hσ, hs, q⟩ := q
  exact dop_read hr (bl_read ⟨Δ, φ, s, hσ, hs, q⟩)
theorem dt_val {e : Expr} {de : DX} (h : DE X W e de) (he : ∀ whole, isTrue e X.env whole = (do let v ← whole; standAt e.pos; holding [v] (truthy v)) := by intro _; rfl) : DTe X W e (dTest de) :=
  pt_imp (pt_val h he) fun σ H Q q => bl_read q
/-- the truth of any value -/
def truD (d : D) (s : Sto) : Option Bool := match d with
  | .non => some false
  | .bl b => some b
  | .int i => some (i != 0)
  | .str x => if x.length ≤ sizeLine then some ((x.length : Int) != 0) else none
  | .tup xs => some (!xs.isEmpty)
  | .obj n => match s[n]? with
    | some (.lst xs) => some (!xs.isEmpty)
    | _ => none
  | .adr _ => none
  | .ty _ => none
  | .fz xs => some (!xs.isEmpty)
  | .exc _ _ _ => none
def dTru (d : D) : M Bool := fun s => match truD d s with
  | some b => some (.ok b, s)
  | none => none
def dAnd (t u : DT) : DT := fun Δ => mbind (t Δ) fun c => if c = true then u Δ else mret false
def dOr (t u : DT) : DT := fun Δ => mbind (t Δ) fun c => if c = true then mret true else u Δ
def dNot (t : DT) : DT := fun Δ => mbind (t Δ) fun c => mret !c
theorem dw_and1 {a : Expr} {t : DT} {pos : Pos} (h : DTe X W a t) : DW X W (.BoolOp .And [a] pos) t := pw_and1 h
theorem dw_or1 {a : Expr} {t : DT} {pos : Pos} (h : DTe X W a t) : DW X W (.BoolOp .Or [a] pos) t := pw_or1 h
theorem dw_and {a b : Expr} {rest : List Expr} {t u : DT} {pos : Pos} (ha : DTe X W a t) (hb : DW X W (.BoolOp .And (b :: rest) pos) u) : DW X W (.BoolOp .And (a :: b :: rest) pos) (dAnd t u) :=
  pw_imp (pw_and ha hb) fun σ H Q ⟨Δ, φ, s, hσ, hs, h⟩ => upT_bind hσ hs h fun φ1 H1 c s1 f1 hσ1 hs1 h1 => by
    cases c with
    | true => exact iteT ⟨Δ, φ1, s1, hσ1, hs1, h1⟩
    | false => exact iteF (h1.ok hs1 rfl)
theorem dw_or {a b : Expr} {rest : List Expr} {t u : DT} {pos : Pos} (ha : DTe X W a t) (hb : DW X W (.BoolOp .Or (b :: rest) pos) u) : DW X W (.BoolOp .Or (a :: b :: rest) pos) (dOr t u) :=
  pw_imp (pw_or ha hb) fun σ H Q ⟨Δ, φ, s, hσ, hs, h⟩ => upT_bind hσ hs h fun φ1 H1 c s1 f1 hσ1 hs1 h1 => by
    cases c with
    | true => exact iteT (h1.ok hs1 rfl)
    | false => exact iteF ⟨Δ, φ1, s1, hσ1, hs1, h1⟩
theorem DW.pt {e : Expr} {t : DT} (h : DW X W e t) : DTe X W e t := PW.pt h
theorem dt_not {a : Expr} {t : DT} {pos : Pos} (h : DTe X W a t) : DTe X W (.UnaryOp .Not a pos) (dNot t) :=
  pt_imp (pt_not h) fun σ H Q ⟨Δ, φ, s, hσ, hs, h⟩ => upT_bind hσ hs h fun φ1 H1 c s1 f1 hσ1 hs1 h1 => h1.ok hs1 rfl
def dTruth (de : DX) : DT := fun Δ => mbind (de Δ) dTru
theorem tru_of {φ : List Addr} {H : Hp} {s : Sto} {v : V} {x : D} {b : Bool} (hs : So X.K φ H s) (rx : Dt X.K φ H v x) (e : truD x s = some b) : TruV X.K v H b := by
  cases rx with
  | non => cases e; rfl
  | bl b => cases e; rfl
  | int i => cases e; rfl
  | str x =>
    simp only [truD] at e
    split at e
    · cases e; rename_i z; exact ⟨z, rfl⟩
    · cases e
  | tup h r =>
    cases e
    refine .inr (.inl ⟨_, h, ?_⟩)
    cases r <;> rfl
  | obj hn =>
    simp only [truD] at e
    split at e
    · rename_i xs es
      cases e
      obtain ⟨vs, k, r⟩ := hs.lst es hn
      refine .inl ⟨_, SqL.of k, ?_⟩
      cases r <;> rfl
    · cases e
  | adr a => cases e
  | ty n => cases e
  | exc _ _ => cases e
  | fz h r =>
    cases e
    refine .inl ⟨_, h.sq, ?_⟩
    cases r <;> rfl
theorem dt_truth {e : Expr} {de : DX} (ha : DE X W e de) (he : ∀ whole, isTrue e X.env whole = (do let v ← whole; standAt e.pos; holding [v] (truthy v)) := by intro _; rfl) : DTe X W e (dTruth de) := by
  refine pt_imp (pt_truth ha he) fun σ H Q ⟨Δ, φ, s, hσ, hs, h⟩ => ?_
  refine upE_bind hσ hs h fun φ1 v H1 x s1 f1 hσ1 hs1 rx h1 => ?_
  unfold dTru at h1
  cases e : truD x s1 with
  | none => rw [e] at h1; exact h1.elim
  | some b =>
    rw [e] at h1
    exact ⟨b, tru_of hs1 rx e, h1.ok hs1 rfl⟩
/-- x or y, x and y, not x by truth -/
def dOrT (da db : DX) : DX := fun Δ => mbind (da Δ) fun x => mbind (dTru x) fun b => if b = true then mret x else db Δ
def dAndT (da db : DX) : DX := fun Δ => mbind (da Δ) fun x => mbind (dTru x) fun b => if b = true then db Δ else mret x
def dNotT (da : DX) : DX := fun Δ => mbind (da Δ) fun x => mbind (dTru x) fun b => mret (.bl !b)
theorem tru_bind {φ : List Addr} {H : Hp} {s : Sto} {v : V} {x : D} {σ : L2.St} {γ δ : Type} {R' : List Addr → Hp → δ → γ → Prop} {C : List Addr → δ → Hp → γ → Sto → Prop} {k : Bool → M γ} (hs : So X.K φ H s) (rx : Dt X.K φ H v x)
    (h : Ps X.K (wAt W σ) R' φ H C (mbind (dTru x) k s)) : ∃ b, TruV X.K v H b ∧ Ps X.K (wAt W σ) R' φ H C (k b s) := by
  unfold mbind dTru at h
  cases e : truD x s with
  | none => rw [e] at h; exact h.elim
  | some b => rw [e] at h; exact ⟨b, tru_of hs rx e, h⟩
theorem de_orT {a b : Expr} {rest : List Expr} {pos : Pos} {da db : DX} (ha : DE X W a da) (hb : DE X W (.BoolOp .Or (b :: rest) pos) db) : DE X W (.BoolOp .Or (a :: b :: rest) pos) (dOrT da db) :=
  pe_imp (pe_orT ha hb) fun σ H Q ⟨Δ, φ, s, hσ, hs, h⟩ => upE_bind hσ hs h fun φ1 v H1 x s1 f1 hσ1 hs1 rx h1 => by
    obtain ⟨k, t, h2⟩ := tru_bind hs1 rx h1
    refine ⟨k, t, ?_⟩
    cases k with
    | true => exact iteT (h2.ok hs1 rx)
    | false => exact iteF ⟨Δ, φ1, s1, hσ1, hs1, h2⟩
theorem de_andT {a b : Expr} {rest : List Expr} {pos : Pos} {da db : DX} (ha : DE X W a da) (hb : DE X W (.BoolOp .And (b :: rest) pos) db) : DE X W (.BoolOp .And (a :: b :: rest) pos) (dAndT da db) :=
  pe_imp (pe_andT ha hb) fun σ H Q ⟨Δ, φ, s, hσ, hs, h⟩ => upE_bind hσ hs h fun φ1 v H1 x s1 f1 hσ1 hs1 rx h1 => by
    obtain ⟨k, t, h2⟩ := tru_bind hs1 rx h1
    refine ⟨k, t, ?_⟩
    cases k with
    | true => exact iteT ⟨Δ, φ1, s1, hσ1, hs1, h2⟩
    | false => exact iteF (h2.ok hs1 rx)
theorem de_notT {a : Expr} {pos : Pos} {da : DX} (ha : DE X W a da) : DE X W (.UnaryOp .Not a pos) (dNotT da) :=
  pe_imp (pe_notT ha) fun σ H Q ⟨Δ, φ, s, hσ, hs, h⟩ => upE_bind hσ hs h fun φ1 v H1 x s1 f1 hσ1 hs1 rx h1 => by
    obtain ⟨k, t, h2⟩ := tru_bind hs1 rx h1
    exact ⟨k, t, h2.ok hs1 (.bl _)⟩
theorem de_one {op : BoolOp} {a : Expr} {da : DX} {pos : Pos} (h : DE X W a da) : DE X W (.BoolOp op [a] pos) da := pe_one h
def dIf (t : DT) (da db : DX) : DX := fun Δ => mbind (t Δ) fun c => if c = true then da Δ else db Δ
theorem de_if {c a b : Expr} {t : DT} {da db : DX} {pos : Pos} (hc : DTe X W c t) (ha : DE X W a da) (hb : DE X W b db) : DE X W (.IfExp c a b pos) (dIf t da db) :=
  pe_imp (pe_ifExp hc ha hb) fun σ H Q ⟨Δ, φ, s, hσ, hs, h⟩ => upT_bind hσ hs h fun φ1 H1 k s1 f1 hσ1 hs1 h1 => by
    cases k with
    | true => exact iteT ⟨Δ, φ1, s1, hσ1, hs1, h1⟩
    | false => exact iteF ⟨Δ, φ1, s1, hσ1, hs1, h1⟩
/-! ### arguments, displays -/
def dNil : DA := fun _ => mret []
def dCons (da : DX) (dr : DA) : DA := fun Δ => mbind (da Δ) fun x => mbind (dr Δ) fun r => mret (x :: r)
theorem da_nil : DAs X W [] dNil := pa_imp pa_nil fun σ H Q ⟨Δ, φ, s, hσ, hs, h⟩ => h.ok hs .nil
theorem da_cons {e : Expr} {es : List Expr} {da : DX} {dr : DA} (ha : DE X W e da) (hr : DAs X W es dr) (hs : starEach (e :: es) X.env = (false, eval e X.env) :: starEach es X.env := by rfl) : DAs X W (e :: es) (dCons da dr) :=
  pa_imp (pa_cons ha hr hs) fun σ H Q ⟨Δ, φ, s, hσ, hs, h⟩ => upE_bind hσ hs h fun φ1 v H1 x s1 f1 hσ1 hs1 rx h1 => upA_bind hσ1 hs1 h1 fun φ2 vs H2 xs s2 f2 hσ2 hs2 rs h2 => h2.ok hs2 (.cons (rx.fu f2) rs)
def dTup (da : DA) : DX := fun Δ => mbind (da Δ) fun xs => if xs.length ≤ sizeLine then mret (.tup xs) else mfail
/-- a new object of the store -/
def mnew (o : DO) : M D := fun s => some (.ok (.obj s.length), s ++ [o])
def dLst (da : DA) : DX := fun Δ => mbind (da Δ) fun xs => if xs.length ≤ sizeLine then mnew (.lst xs) else mfail
theorem Dts.newO {K : PySem.W.Frag} {φ : List Addr} {H : Hp} {s : Sto} {p : Addr} {vs : List V} {xs : List D} (hs : So K φ H s) (hp : H p = none) (r : Dts K φ H vs xs) : So K (φ ++ [p]) (upd H p (.lst vs)) (s ++ [.lst xs]) :=
  hs.newO hp ⟨vs, upd_same, r.fu (fu_newO hp)⟩
theorem obj_new {K : PySem.W.Frag} {φ : List Addr} {H : Hp} {s : Sto} {p : Addr} (hs : So K φ H s) {H' : Hp} : Dt K (φ ++ [p]) H' (.ref p) (.obj s.length) := .obj (by rw [hs.len, List.getElem?_append_right (Nat.le_refl _)]; simp)
theorem Ps.new {K : PySem.W.Frag} {W : WK} {φ : List Addr} {H : Hp} {s : Sto} {p : Addr} {vs : List V} {xs : List D} {Q : VK} (h : Ps K W (Dt K) φ H (fun _ v H' _ _ => Q v H') (mnew (.lst xs) s)) (hs : So K φ H s) (hp : H p = none) (r : Dts K φ H vs xs) : Q (.ref p) (upd H p (.lst vs)) :=
  h _ _ _ (fu_newO hp) (Dts.newO hs hp r) (obj_new hs)
theorem de_tup {es : List Expr} {da : DA} {x1} {pos : Pos} (h : DAs X W es da) : DE X W (.Tuple es x1 pos) (dTup da) :=
  pe_imp (pe_tup h) fun σ H Q ⟨Δ, φ, s, hσ, hs, h⟩ => upA_bind hσ hs h fun φ1 vs H1 xs s1 f1 hσ1 hs1 rx h1 => by
    split at h1
    · rename_i z
      refine ⟨by rw [rx.length]; exact z, fun p hp => ?_⟩
      exact h1 φ1 _ _ (fu_new hp) (hs1.new hp) (.tup (SqT.of upd_same) (rx.fu (fu_new hp)))
    · exact h1.elim
theorem de_lst {es : List Expr} {da : DA} {pos : Pos} (h : DAs X W es da) : DE X W (.List es pos) (dLst da) :=
  pe_imp (pe_lst h) fun σ H Q ⟨Δ, φ, s, hσ, hs, h⟩ => upA_bind hσ hs h fun φ1 vs H1 xs s1 f1 hσ1 hs1 rx h1 => by
    split at h1
    · rename_i z
      exact ⟨by rw [rx.length]; exact z, fun p hp => h1.new hs1 hp rx⟩
    · exact h1.elim
end
end DV

namespace DV
open PySem L2 PyProof.Rows
theorem PsO.ok {K : PySem.W.Frag} {φ : List Addr} {H : Hp} {Q : VK} {d : D} {s : Sto} {v : V} (h : PsO K φ H Q (some (d, s))) (so : So K φ H s) (r : Dt K φ H v d) : Q v H := h φ v H (Fu.refl _ _) so r
theorem PsO.newL {K : PySem.W.Frag} {φ : List Addr} {H : Hp} {Q : VK} {xs : List D} {s : Sto} {vs : List V} {p : Addr} (h : PsO K φ H Q (some (.obj s.length, s ++ [.lst xs]))) (so : So K φ H s) (hp : H p = none) (r : Dts K φ H vs xs) : Q (.ref p) (upd H p (.lst vs)) :=
  h _ _ _ (fu_newO hp) (Dts.newO so hp r) (obj_new so)
theorem PsO.newT {K : PySem.W.Frag} {φ : List Addr} {H : Hp} {Q : VK} {xs : List D} {s : Sto} {vs : List V} {p : Addr} (h : PsO K φ H Q (some (.tup xs, s))) (so : So K φ H s) (hp : H p = none) (r : Dts K φ H vs xs) : Q (.ref p) (upd H p (.tup vs)) :=
  h φ _ _ (fu_new hp) (so.new hp) (.tup (SqT.of upd_same) (r.fu (fu_new hp)))
section
variable {X : Cx}
/-! ### ints -/
def fI (c : Int → Int → Bool) (g : Int → Int → D) : Op2 := fun x y s => match x, y with
  | .int i, .int j => if c i j = true then some (g i j, s) else none
  | _, _ => none
theorem dop_I {fn : Value → Value → Sem Value} {C : Int → Int → Prop} {gV : Int → Int → V} {c : Int → Int → Bool} {g : Int → Int → D} (ho : OpR X fn (rI C gV)) (hc : ∀ i j, c i j = true → C i j) (hg : ∀ i j φ H, Dt X.K φ H (gV i j) (g i j)) : DOp X fn (fI c g) :=
  ⟨_, ho, fun φ H s x y v u Q so rx ry p => by
    cases rx <;> cases ry <;> first | exact p.elim | skip
    rename_i i j
    simp only [fI] at p
    split at p
    · rename_i z
      exact ⟨i, j, rfl, rfl, hc i j z, p.ok so (hg i j φ H)⟩
    · exact p.elim⟩
theorem dop_I0 {fn : Value → Value → Sem Value} {gV : Int → Int → V} {g : Int → Int → D} (ho : OpR X fn (rI0 gV)) (hg : ∀ i j φ H, Dt X.K φ H (gV i j) (g i j)) : DOp X fn (fI (fun _ _ => true) g) :=
  ⟨_, ho, fun φ H s x y v u Q so rx ry p => by
    cases rx <;> cases ry <;> first | exact p.elim | skip
    rename_i i j
    exact ⟨i, j, rfl, rfl, p.ok so (hg i j φ H)⟩⟩
abbrev tt2 : Int → Int → Bool := fun _ _ => true
def fAddI : Op2 := fI tt2 fun i j => .int (i + j)
def fSub : Op2 := fI tt2 fun i j => .int (i - j)
def mulOk (i j : Int) : Bool := decide (i.natAbs < 2 ^ 64) || decide (j.natAbs < 2 ^ 64) || decide (i.natAbs.log2 + j.natAbs.log2 < 1000000)
def fMulI : Op2 := fI mulOk fun i j => .int (i * j)
def divOk (_ j : Int) : Bool := decide (j ≠ 0) && decide (j.natAbs < 1073741824)
def fDiv : Op2 := fI divOk fun i j => .int (i.fdiv j)
def modOk (_ j : Int) : Bool := decide (j ≠ 0)
def fMod : Op2 := fI modOk fun i j => .int (i.fmod j)
def powOk (i j : Int) : Bool := decide (0 ≤ j) && decide (Builtin.Int.intBits i * j.toNat ≤ 2 ^ 27)
def fPow : Op2 := fI powOk fun i j => .int (i ^ j.toNat)
def shlOk (i j : Int) : Bool := decide (0 ≤ j) && decide (Builtin.Int.intBits i + j.toNat ≤ 2 ^ 27)
def fShl : Op2 := fI shlOk fun i j => .int (i * 2 ^ j.toNat)
def shrOk (_ j : Int) : Bool := decide (0 ≤ j)
def fShr : Op2 := fI shrOk fun i j => .int (i / 2 ^ j.toNat)
def fAnd : Op2 := fI tt2 fun i j => .int (Builtin.bitAnd i j)
def fXor : Op2 := fI tt2 fun i j => .int (Builtin.bitXor i j)
theorem dop_addI : DOp X (binaryOp .Add) fAddI := dop_I0 op_add fun _ _ _ _ => .int _
theorem dop_sub : DOp X (binaryOp .Sub) fSub := dop_I0 op_sub fun _ _ _ _ => .int _
theorem dop_and : DOp X (binaryOp .BitAnd) fAnd := dop_I0 op_and fun _ _ _ _ => .int _
theorem dop_xor : DOp X (binaryOp .BitXor) fXor := dop_I0 op_xor fun _ _ _ _ => .int _
theorem op_mulG : OpR X (binaryOp .Mult) (rI (fun i j => mulOk i j = true) fun i j => .int (i * j)) := opI fun i j _ _ _ _ _ hc q => mul_int q (by
  unfold mulOk at hc
  simp only [Bool.or_eq_true, decide_eq_true_eq] at hc
  rcases hc with (h | h) | h
  · exact CMul.ok (.inl ⟨by omega, by omega⟩)
  · exact CMul.ok (.inr ⟨by omega, by omega⟩)
  · exact CMulW.ok h)
theorem dop_mulI : DOp X (binaryOp .Mult) fMulI := dop_I op_mulG (fun _ _ h => h) fun _ _ _ _ => .int _
theorem dop_div : DOp X (binaryOp .FloorDiv) fDiv := dop_I op_fdivN (fun i j h => by
  unfold divOk at h
  simp only [Bool.and_eq_true, decide_eq_true_eq] at h
  exact h) fun _ _ _ _ => .int _
theorem dop_mod : DOp X (binaryOp .Mod) fMod := dop_I op_modN (fun i j h => of_decide_eq_true h) fun _ _ _ _ => .int _
theorem op_powG : OpR X (binaryOp .Pow) (rI (fun i j => powOk i j = true) fun i j => .int (i ^ j.toNat)) := opI fun i j _ _ _ _ _ hc q => by
  unfold powOk at hc
  simp only [Bool.and_eq_true, decide_eq_true_eq] at hc
  obtain ⟨h0, h1⟩ := hc
  refine pow_int h0 ?_ q
  have h2 : ((Builtin.Int.intBits i * j.toNat : Nat) : Int) ≤ ((2 ^ 27 : Nat) : Int) := Int.ofNat_le.mpr h1
  rw [Int.natCast_mul, Int.toNat_of_nonneg h0] at h2
  exact h2
theorem dop_pow : DOp X (binaryOp .Pow) fPow := dop_I op_powG (fun _ _ h => h) fun _ _ _ _ => .int _
theorem op_shlG : OpR X (binaryOp .LShift) (rI (fun i j => shlOk i j = true) fun i j => .int (i * 2 ^ j.toNat)) := opI fun i j _ _ _ _ _ hc q => by
  unfold shlOk at hc
  simp only [Bool.and_eq_true, decide_eq_true_eq] at hc
  obtain ⟨h0, h1⟩ := hc
  refine lshift_int h0 ?_ q
  have h2 : ((Builtin.Int.intBits i + j.toNat : Nat) : Int) ≤ ((2 ^ 27 : Nat) : Int) := Int.ofNat_le.mpr h1
  rw [Int.natCast_add, Int.toNat_of_nonneg h0] at h2
  exact h2
theorem dop_shl : DOp X (binaryOp .LShift) fShl := dop_I op_shlG (fun _ _ h => h) fun _ _ _ _ => .int _
theorem dop_shr : DOp X (binaryOp .RShift) fShr := dop_I op_shr (fun _ _ h => of_decide_eq_true h) fun _ _ _ _ => .int _
def fLt : Op2 := fI tt2 fun i j => .bl (decide (i < j))
def fLe : Op2 := fI tt2 fun i j => .bl (decide (i ≤ j))
def fGt : Op2 := fI tt2 fun i j => .bl (decide (j < i))
def fGe : Op2 := fI tt2 fun i j => .bl (decide (j ≤ i))
theorem dop_lt : DOp X (compareOp .Lt) fLt := dop_I0 op_lt fun _ _ _ _ => .bl _
theorem dop_le : DOp X (compareOp .LtE) fLe := dop_I0 op_le fun _ _ _ _ => .bl _
theorem dop_gt : DOp X (compareOp .Gt) fGt := dop_I0 op_gt fun _ _ _ _ => .bl _
theorem dop_ge : DOp X (compareOp .GtE) fGe := dop_I0 op_ge fun _ _ _ _ => .bl _
/-! ### texts, lists, tuples -/
def fAddS : Op2 := fun x y s => match x, y with
  | .str i, .str j => if i.length + j.length ≤ sizeLine then some (.str (i ++ j), s) else none
  | _, _ => none
theorem dop_addS : DOp X (binaryOp .Add) fAddS := ⟨_, op_add_str, fun φ H s x y v u Q so rx ry p => by
  cases rx <;> cases ry <;> first | exact p.elim | skip
  rename_i i j
  simp only [fAddS] at p
  split at p
  · rename_i z
    exact ⟨i, j, rfl, rfl, z, p.ok so (.str _)⟩
  · exact p.elim⟩
def lstAt (s : Sto) (n : Nat) : Option (List D) := match s[n]? with
  | some (.lst xs) => some xs
  | _ => none
theorem lstAt_eq {s : Sto} {n : Nat} {xs : List D} (h : lstAt s n = some xs) : s[n]? = some (.lst xs) := by
  unfold lstAt at h
  split at h
  · cases h; assumption
  · cases h
def fAddL : Op2 := fun x y s => match x, y with
  | .obj m, .obj n => match lstAt s m, lstAt s n with
    | some xs, some ys => if xs.length + ys.length ≤ sizeLine then some (.obj s.length, s ++ [.lst (xs ++ ys)]) else none
    | _, _ => none
  | _, _ => none
theorem dop_addL : DOp X (binaryOp .Add) fAddL := ⟨_, op_cat, fun φ H s x y v u Q so rx ry p => by
  cases rx <;> cases ry <;> first | exact p.elim | skip
  rename_i a m ha b n hb
  simp only [fAddL] at p
  split at p
  · rename_i xs ys e1 e2
    split at p
    · rename_i z
      obtain ⟨vs, h1, r1⟩ := so.lst (lstAt_eq e1) ha
      obtain ⟨ws, h2, r2⟩ := so.lst (lstAt_eq e2) hb
      exact ⟨a, b, vs, ws, rfl, rfl, h1, h2, by rw [r1.length, r2.length]; exact z, fun q hq => p.newL so hq (r1.append r2)⟩
    · exact p.elim
  · exact p.elim⟩
def fAddT : Op2 := fun x y s => match x, y with
  | .tup xs, .tup ys => if xs.isEmpty = false ∧ ys.isEmpty = false ∧ xs.length + ys.length ≤ sizeLine then some (.tup (xs ++ ys), s) else none
  | _, _ => none
theorem Dts.ne_nil {K : PySem.W.Frag} {φ : List Addr} {H : Hp} {vs : List V} {ds : List D} (r : Dts K φ H vs ds) (h : ds.isEmpty = false) : vs ≠ [] := fun e => by
  subst e
  cases r
  cases h
theorem dop_addT : DOp X (binaryOp .Add) fAddT := ⟨_, op_catT, fun φ H s x y v u Q so rx ry p => by
  cases rx <;> cases ry <;> first | exact p.elim | skip
  rename_i a vs ds h1 r1 b ws es h2 r2
  simp only [fAddT] at p
  split at p
  · rename_i z
    refine ⟨_, _, _, _, rfl, rfl, h1, h2, r1.ne_nil z.1, by rw [r1.length, r2.length]; exact z.2.2, fun e => absurd e (r2.ne_nil z.2.1), fun _ q hq => p.newT so hq (r1.append r2)⟩
  · exact p.elim⟩
def fAdd : Op2 := orOp fAddI (orOp fAddS (orOp fAddL fAddT))
theorem dop_add : DOp X (binaryOp .Add) fAdd := dop_addI.or (dop_addS.or (dop_addL.or dop_addT))
def repOk (n : Nat) (k : Int) : Bool := decide (-(2 ^ 63) ≤ k) && decide (k < 2 ^ 63) && decide (n * k.toNat ≤ sizeLine)
def fRepL : Op2 := fun x y s => match x, y with
  | .obj m, .int k => match lstAt s m with
    | some xs => if repOk xs.length k = true then some (.obj s.length, s ++ [.lst (List.replicate k.toNat xs).flatten]) else none
    | none => none
  | _, _ => none
theorem Dts.flat {K : PySem.W.Frag} {φ : List Addr} {H : Hp} {vs : List V} {ds : List D} (r : Dts K φ H vs ds) : ∀ n : Nat, Dts K φ H (List.replicate n vs).flatten (List.replicate n ds).flatten
  | 0 => .nil
  | n + 1 => by
    rw [List.replicate_succ, List.replicate_succ, List.flatten_cons, List.flatten_cons]
    exact r.append (Dts.flat r n)
theorem dop_repL : DOp X (binaryOp .Mult) fRepL := ⟨_, op_rep, fun φ H s x y v u Q so rx ry p => by
  cases rx <;> cases ry <;> first | exact p.elim | skip
  rename_i a m ha k
  simp only [fRepL] at p
  split at p
  · rename_i xs e1
    split at p
    · rename_i z
      unfold repOk at z
      simp only [Bool.and_eq_true, decide_eq_true_eq] at z
      obtain ⟨vs, h1, r1⟩ := so.lst (lstAt_eq e1) ha
      exact ⟨a, k, vs, rfl, rfl, h1, z.1.1, z.1.2, by rw [r1.length]; exact z.2, fun q hq => p.newL so hq (r1.flat _)⟩
    · exact p.elim
  · exact p.elim⟩
def fMul : Op2 := orOp fMulI fRepL
theorem dop_mul : DOp X (binaryOp .Mult) fMul := dop_mulI.or dop_repL

/-! ### plain data -/
def omap {α β : Type} (f : α → Option β) : List α → Option (List β)
  | [] => some []
  | a :: r => match f a, omap f r with
    | some b, some bs => some (b :: bs)
    | _, _ => none
def toPy (s : Sto) : Nat → D → Option PyData
  | 0, _ => none
  | _ + 1, .non => some .none
  | _ + 1, .bl b => some (.bool b)
  | _ + 1, .int i => some (.int i)
  | _ + 1, .str x => some (.str x)
  | n + 1, .tup xs => (omap (toPy s n) xs).map .tuple
  | n + 1, .obj k => match lstAt s k with
    | some xs => (omap (toPy s n) xs).map .list
    | none => none
  | _ + 1, .adr _ => none
  | _ + 1, .ty _ => none
  | n + 1, .fz xs => (omap (toPy s n) xs).map .list
  | _ + 1, .exc _ _ _ => none
theorem omap_dp {K : PySem.W.Frag} {φ : List Addr} {H : Hp} {f : D → Option PyData} (hf : ∀ v d p, Dt K φ H v d → f d = some p → Dp K H v p) : ∀ {vs : List V} {ds : List D} {ps : List PyData}, Dts K φ H vs ds → omap f ds = some ps → DpAll K H vs ps
  | _, _, _, .nil, e => by cases e; exact .nil
  | _, _, _, .cons h r, e => by
    simp only [omap] at e
    split at e
    · rename_i b bs e1 e2
      cases e
      exact .cons (hf _ _ _ h e1) (omap_dp hf r e2)
    · cases e
theorem toPy_dp {K : PySem.W.Frag} {φ : List Addr} {H : Hp} {s : Sto} (so : So K φ H s) : ∀ (n : Nat) (v : V) (d : D) (p : PyData), Dt K φ H v d → toPy s n d = some p → Dp K H v p
  | 0, _, _, _, _, e => by cases e
  | n + 1, _, _, _, .non, e => by cases e; exact .non
  | n + 1, _, _, _, .bl b, e => by cases e; exact .bl b
  | n + 1, _, _, _, .int i, e => by cases e; exact .int i
  | n + 1, _, _, _, .str x, e => by cases e; exact .str x
  | n + 1, _, _, _, .tup h r, e => by
    simp only [toPy, Option.map_eq_some_iff] at e
    obtain ⟨ps, e, rfl⟩ := e
    exact .tup h (omap_dp (fun v d p => toPy_dp so n v d p) r e)
  | n + 1, _, _, _, .obj ha, e => by
    simp only [toPy] at e
    split at e
    · rename_i xs ex
      simp only [Option.map_eq_some_iff] at e
      obtain ⟨ps, e, rfl⟩ := e
      obtain ⟨vs, h1, r1⟩ := so.lst (lstAt_eq ex) ha
      exact .lst (SqL.of h1) (omap_dp (fun v d p => toPy_dp so n v d p) r1 e)
    · cases e
  | n + 1, _, _, _, .adr _, e => by cases e
  | n + 1, _, _, _, .ty _, e => by cases e
  | n + 1, _, _, _, .fz h r, e => by
    simp only [toPy, Option.map_eq_some_iff] at e
    obtain ⟨ps, e, rfl⟩ := e
    exact .lst h.sq (omap_dp (fun v d p => toPy_dp so n v d p) r e)
  | n + 1, _, _, _, .exc _ _, e => by cases e
/-- two data as plain ones -/
def py2 (s : Sto) (x y : D) : Option (PyData × PyData) := match toPy s 64 x, toPy s 64 y with
  | some p, some q => if (SeqAt.shaped p && SeqAt.shaped q) = true then some (p, q) else none
  | _, _ => none
theorem py2_dp {K : PySem.W.Frag} {φ : List Addr} {H : Hp} {s : Sto} (so : So K φ H s) {x y : D} {v u : V} {p q : PyData} (rx : Dt K φ H v x) (ry : Dt K φ H u y) (e : py2 s x y = some (p, q)) :
    Dp K H v p ∧ Dp K H u q ∧ SeqAt.shaped p = true ∧ SeqAt.shaped q = true := by
  unfold py2 at e
  split at e
  · rename_i a b e1 e2
    split at e
    · rename_i z
      cases e
      rw [Bool.and_eq_true] at z
      exact ⟨toPy_dp so _ _ _ _ rx e1, toPy_dp so _ _ _ _ ry e2, z.1, z.2⟩
    · cases e
  · cases e
def fEq : Op2 := fun x y s => match py2 s x y with
  | some (p, q) => some (.bl (PyData.eqv p q), s)
  | none => none
def fNe : Op2 := fun x y s => match py2 s x y with
  | some (p, q) => some (.bl (!PyData.eqv p q), s)
  | none => none
theorem dop_eq (hu : X.A.units + 64 < cLine) : DOp X (compareOp .Eq) fEq := ⟨_, op_eqD hu, fun φ H s x y v u Q so rx ry p => by
  simp only [fEq] at p
  split at p
  · rename_i a b e
    obtain ⟨h1, h2, h3, h4⟩ := py2_dp so rx ry e
    exact ⟨a, b, h1, h2, h3, h4, p.ok so (.bl _)⟩
  · exact p.elim⟩
theorem dop_ne (hu : X.A.units + 64 < cLine) : DOp X (compareOp .NotEq) fNe := ⟨_, op_neD hu, fun φ H s x y v u Q so rx ry p => by
  simp only [fNe] at p
  split at p
  · rename_i a b e
    obtain ⟨h1, h2, h3, h4⟩ := py2_dp so rx ry e
    exact ⟨a, b, h1, h2, h3, h4, p.ok so (.bl _)⟩
  · exact p.elim⟩
/-- x in a list or a tuple of plain data -/
def pyItems : PyData → Option (List PyData)
  | .list xs => some xs
  | .tuple xs => some xs
  | _ => none
def rInP (K : PySem.W.Frag) (neg : Bool) : R2 := fun x y H Q => ∃ d e ds, Dp K H x d ∧ Dp K H y e ∧ pyItems e = some ds ∧ SeqAt.shaped d = true ∧ SeqAt.shaped e = true ∧ Q (.bl (if neg then !(ds.any fun z => PyData.eqv z d) else ds.any fun z => PyData.eqv z d)) H
theorem in_room {A : Around} {d : PyData} (sd : SeqAt.shaped d = true) (n : Nat) (hu : A.units + 66 < cLine) : A.units + 1 + min n d.depth < cLine := by
  have h := SeqAt.depth_of_shaped sd
  have := Nat.min_le_right n d.depth
  omega
theorem op_inP (hu : X.A.units + 66 < cLine) : OpR X (compareOp .In) (rInP X.K false) := by
  intro pins s σ H x y v u Q I rx ry h
  obtain ⟨d, e, ds, hd, he, hi, sd, se, q⟩ := h
  obtain ⟨as, r1⟩ := Dp.reads I d x v hd rx
  obtain ⟨bs, r2⟩ := Dp.reads I e y u he ry
  cases e <;> first | cases hi | skip
  · exact SeqAt.in_list_reads r2 r1 (SeqAt.canLay_of_shaped se) (SeqAt.canLay_of_shaped sd) (in_room sd _ hu) ⟨.bl _, H, I, rfl, q⟩
  · exact SeqAt.in_tuple_reads r2 r1 (SeqAt.canLay_of_shaped se) (SeqAt.canLay_of_shaped sd) (in_room sd _ hu) ⟨.bl _, H, I, rfl, q⟩
theorem op_notInP (hu : X.A.units + 66 < cLine) : OpR X (compareOp .NotIn) (rInP X.K true) := by
  intro pins s σ H x y v u Q I rx ry h
  obtain ⟨d, e, ds, hd, he, hi, sd, se, q⟩ := h
  obtain ⟨as, r1⟩ := Dp.reads I d x v hd rx
  obtain ⟨bs, r2⟩ := Dp.reads I e y u he ry
  cases e <;> first | cases hi | skip
  · exact SeqAt.notIn_list_reads r2 r1 (SeqAt.canLay_of_shaped se) (SeqAt.canLay_of_shaped sd) (in_room sd _ hu) ⟨.bl _, H, I, rfl, q⟩
  · exact SeqAt.notIn_tuple_reads r2 r1 (SeqAt.canLay_of_shaped se) (SeqAt.canLay_of_shaped sd) (in_room sd _ hu) ⟨.bl _, H, I, rfl, q⟩
def fInP (neg : Bool) : Op2 := fun x y s => match py2 s x y with
  | some (p, q) => match pyItems q with
    | some ds => some (.bl (if neg then !(ds.any fun z => PyData.eqv z p) else ds.any fun z => PyData.eqv z p), s)
    | none => none
  | none => none
theorem dop_inP0 {fn : Value → Value → Sem Value} {neg : Bool} (ho : OpR X fn (rInP X.K neg)) : DOp X fn (fInP neg) := ⟨_, ho, fun φ H s x y v u Q so rx ry p => by
  simp only [fInP] at p
  split at p
  · rename_i a b e
    obtain ⟨h1, h2, h3, h4⟩ := py2_dp so rx ry e
    split at p
    · rename_i ds e2
      exact ⟨a, b, ds, h1, h2, e2, h3, h4, p.ok so (.bl _)⟩
    · exact p.elim
  · exact p.elim⟩
/-- a sign in a text -/
def fInS (neg : Bool) : Op2 := fun x y s => match x, y with
  | .str c, .str z => if c.cps.size = 1 then some (.bl (if neg then !(decide (c.cps.getD 0 0 ∈ z.cps.toList)) else decide (c.cps.getD 0 0 ∈ z.cps.toList)), s) else none
  | _, _ => none
theorem str_one {c : Str} (h : c.cps.size = 1) : c = ⟨#[c.cps.getD 0 0]⟩ := by
  obtain ⟨⟨l⟩⟩ := c
  match l, h with
  | [a], _ => rfl
theorem dop_inS : DOp X (compareOp .In) (fInS false) := ⟨_, op_in_sign, fun φ H s x y v u Q so rx ry p => by
  cases rx <;> cases ry <;> first | exact p.elim | skip
  rename_i c z
  simp only [fInS] at p
  split at p
  · rename_i e
    refine ⟨c.cps.getD 0 0, z, by rw [← str_one e], rfl, p.ok so (.bl _)⟩
  · exact p.elim⟩
theorem dop_notInS : DOp X (compareOp .NotIn) (fInS true) := ⟨_, op_notIn_sign, fun φ H s x y v u Q so rx ry p => by
  cases rx <;> cases ry <;> first | exact p.elim | skip
  rename_i c z
  simp only [fInS] at p
  split at p
  · rename_i e
    refine ⟨c.cps.getD 0 0, z, by rw [← str_one e], rfl, p.ok so (.bl _)⟩
  · exact p.elim⟩
def fIn : Op2 := orOp (fInS false) (fInP false)
def fNotIn : Op2 := orOp (fInS true) (fInP true)
theorem dop_in (hu : X.A.units + 66 < cLine) : DOp X (compareOp .In) fIn := dop_inS.or (dop_inP0 (op_inP hu))
theorem dop_notIn (hu : X.A.units + 66 < cLine) : DOp X (compareOp .NotIn) fNotIn := dop_notInS.or (dop_inP0 (op_notInP hu))
/-- is None -/
def isNon : D → Bool
  | .non => true
  | _ => false
def fIsN : Op2 := fun x y s => match y with
  | .non => some (.bl (isNon x), s)
  | _ => none
def fNotN : Op2 := fun x y s => match y with
  | .non => some (.bl (!isNon x), s)
  | _ => none
theorem isNon_eq {K : PySem.W.Frag} {φ : List Addr} {H : Hp} {v : V} {x : D} (r : Dt K φ H v x) : decide (v = V.non) = isNon x := by
  cases r <;> rfl
theorem dop_isN : DOp X (compareOp .Is) fIsN := ⟨_, op_isN, fun φ H s x y v u Q so rx ry p => by
  cases ry <;> first | exact p.elim | skip
  refine ⟨rfl, ?_⟩
  rw [isNon_eq rx]
  exact p.ok so (.bl _)⟩
theorem dop_notN : DOp X (compareOp .IsNot) fNotN := ⟨_, op_notN, fun φ H s x y v u Q so rx ry p => by
  cases ry <;> first | exact p.elim | skip
  refine ⟨rfl, ?_⟩
  rw [isNon_eq rx]
  exact p.ok so (.bl _)⟩
/-! ### one-place operators -/
abbrev Op1 := D → Sto → Option (D × Sto)
def lift1 (f : Op1) (x : D) : M D := fun s => match f x s with
  | some (d, s') => some (.ok d, s')
  | none => none
theorem PsO.of1 {K : PySem.W.Frag} {W : WK} {φ : List Addr} {H : Hp} {Q : VK} {f : Op1} {x : D} {s : Sto} (h : Ps K W (Dt K) φ H (fun _ v H' _ _ => Q v H') (lift1 f x s)) : PsO K φ H Q (f x s) := by
  unfold lift1 at h
  split at h
  · rename_i e
    rw [e]
    exact h
  · exact h.elim
def dOp1 (f : Op1) (da : DX) : DX := fun Δ => mbind (da Δ) (lift1 f)
def fNeg : Op1 := fun x s => match x with
  | .int i => some (.int (-i), s)
  | _ => none
theorem de_neg {W : WX} {a : Expr} {da : DX} {pos : Pos} (ha : DE X W a da) : DE X W (.UnaryOp .USub a pos) (dOp1 fNeg da) :=
  pe_imp (pe_un un_neg ha) fun σ H Q ⟨Δ, φ, s, hσ, hs, h⟩ => upE_bind hσ hs h fun φ1 v H1 x s1 f1 hσ1 hs1 rx h1 => by
    have p := PsO.of1 h1
    cases rx <;> first | exact p.elim | skip
    exact ⟨_, rfl, p.ok hs1 (.int _)⟩
/-! ### chains -/
def dChain (f g : Op2) (da db dc : DX) : DX := fun Δ => mbind (da Δ) fun x => mbind (db Δ) fun y => mbind (lift2 f x y) fun z => mbind (dBl z) fun b => if b = true then mbind (dc Δ) fun w => lift2 g y w else mret (.bl false)
/-! ### calls of built-ins -/
abbrev OpN := List D → Sto → Option (D × Sto)
def liftN (f : OpN) (x : List D) : M D := fun s => match f x s with
  | some (d, s') => some (.ok d, s')
  | none => none
theorem PsO.ofN {K : PySem.W.Frag} {W : WK} {φ : List Addr} {H : Hp} {Q : VK} {f : OpN} {x : List D} {s : Sto} (h : Ps K W (Dt K) φ H (fun _ v H' _ _ => Q v H') (liftN f x s)) : PsO K φ H Q (f x s) := by
  unfold liftN at h
  split at h
  · rename_i e
    rw [e]
    exact h
  · exact h.elim
def DCall (X : Cx) (fv : Value) (f : OpN) : Prop := ∃ r, CallR X fv r ∧ ∀ φ H s vs ds Q, So X.K φ H s → Dts X.K φ H vs ds → PsO X.K φ H Q (f ds s) → r vs H Q
def orN (f g : OpN) : OpN := fun x s => match f x s with
  | some r => some r
  | none => g x s
theorem DCall.or {fv : Value} {f g : OpN} (hf : DCall X fv f) (hg : DCall X fv g) : DCall X fv (orN f g) := by
  obtain ⟨r, h, q⟩ := hf
  obtain ⟨r', h', q'⟩ := hg
  refine ⟨fun vs H Q => r vs H Q ∨ r' vs H Q, fun pins s σ H vs us Q I rv hq => ?_, fun φ H s vs ds Q so rx p => ?_⟩
  · rcases hq with hq | hq
    · exact h pins s σ H vs us Q I rv hq
    · exact h' pins s σ H vs us Q I rv hq
  · unfold orN at p
    split at p
    · rename_i e
      exact .inl (q φ H s vs ds Q so rx (by rw [e]; exact p))
    · exact .inr (q' φ H s vs ds Q so rx p)
def dCB (f : OpN) (da : DA) : DX := fun Δ => mbind (da Δ) (liftN f)
theorem dcb_read {W : WX} {f : OpN} {r : List V → Hp → VK → Prop} (hr : ∀ φ H s vs ds Q, So X.K φ H s → Dts X.K φ H vs ds → PsO X.K φ H Q (f ds s) → r vs H Q) {da : DA} {σ : L2.St} {H : Hp} {Q : VK}
    (h : upE X.K W (dCB f da) σ H Q) : tCB r (upA X.K W da) σ H Q := by
  obtain ⟨Δ, φ, s, hσ, hs, h⟩ := h
  exact upA_bind hσ hs h fun φ1 vs H1 xs s1 f1 hσ1 hs1 rx h1 => hr φ1 H1 s1 vs xs Q hs1 rx (PsO.ofN h1)
theorem de_callB {W : WX} {x : Str} {id : String} {f : OpN} {e : Expr} {es : List Expr} {da : DA} {p pos : Pos} (hc : DCall X (.builtin id) f) (hg : Gl X x) (hm : X.mg x = none) (hv : bootBuiltins x = some (.builtin id)) (ha : DAs X W (e :: es) da)
    (hn : x ≠ "__name__" := by decide) (hdb : (x == ("__debug__" : Str)) = false := by decide) (he : starEach (e :: es) X.env = (false, eval e X.env) :: starEach es X.env := by rfl) (hpl : (backTo pos (starEach es X.env)).any (·.1) = false := by rfl) : DE X W (.Call (.Name x p) (e :: es) [] pos) (dCB f da) := by
  obtain ⟨r, h, hr⟩ := hc
  exact pe_imp (pe_callB h hg hm hv ha hn hdb he hpl) fun σ H Q q => dcb_read hr q
theorem de_callTy {W : WX} {x : Str} {T : String} {f : OpN} {e : Expr} {es : List Expr} {da : DA} {p pos : Pos} (hc : DCall X (.type T) f) (hg : Gl X x) (hm : X.mg x = none) (hv : bootBuiltins x = some (.type T)) (ha : DAs X W (e :: es) da)
    (hn : x ≠ "__name__" := by decide) (hdb : (x == ("__debug__" : Str)) = false := by decide) (he : starEach (e :: es) X.env = (false, eval e X.env) :: starEach es X.env := by rfl) (hpl : (backTo pos (starEach es X.env)).any (·.1) = false := by rfl) : DE X W (.Call (.Name x p) (e :: es) [] pos) (dCB f da) := by
  obtain ⟨r, h, hr⟩ := hc
  exact pe_imp (pe_callTy h hg hm hv ha hn hdb he hpl) fun σ H Q q => dcb_read hr q
end
end DV

namespace DV
open PySem L2 PyProof.Rows
theorem PsO.set {K : PySem.W.Frag} {φ : List Addr} {H : Hp} {Q : VK} {d : D} {s : Sto} {n : Nat} {a : Addr} {v : V} {xs : List D} {vs : List V} (h : PsO K φ H Q (some (d, s.set n (.lst xs)))) (so : So K φ H s) (ha : φ[n]? = some a) (r : Dts K φ H vs xs)
    (rv : Dt K φ (upd H a (.lst vs)) v d) : Q v (upd H a (.lst vs)) :=
  h φ _ _ (fu_set so ha) (so.set ha ⟨vs, upd_same, r.fu (fu_set so ha)⟩) rv
section
variable {X : Cx} {W : WX}
/-! ### items -/
def fIx : Op2 := fun x y s => match x, y with
  | .obj n, .int i => match lstAt s n with
    | some xs => match atI xs i with
      | some d => some (d, s)
      | none => none
    | none => none
  | .tup xs, .int i => match atI xs i with
    | some d => some (d, s)
    | none => none
  | .str z, .int i => if z.length ≤ sizeLine then match atI z.cps.toList i with
    | some c => some (.str ⟨#[c]⟩, s)
    | none => none else none
  | _, _ => none
theorem atI_dts {K : PySem.W.Frag} {φ : List Addr} {H : Hp} {vs : List V} {ds : List D} (r : Dts K φ H vs ds) {i : Int} {d : D} (h : atI ds i = some d) : ∃ v, atI vs i = some v ∧ Dt K φ H v d := by
  unfold atI at h ⊢
  rw [r.length]
  cases e : ixN ds.length i with
  | none => rw [e] at h; cases h
  | some j =>
    rw [e] at h
    exact r.get h
theorem dx_read {φ : List Addr} {H : Hp} {s : Sto} {x y : D} {v u : V} {Q : VK} (so : So X.K φ H s) (rx : Dt X.K φ H v x) (ry : Dt X.K φ H u y) (p : PsO X.K φ H Q (fIx x y s)) : rIx X.K v u H Q := by
  cases rx <;> cases ry <;> first | exact p.elim | skip
  · rename_i z i
    simp only [fIx] at p
    split at p
    · rename_i hz
      split at p
      · rename_i c e
        exact .inr (.inr ⟨z, i, c, rfl, rfl, hz, e, p.ok so (.str _)⟩)
      · exact p.elim
    · exact p.elim
  · rename_i a vs ds h r i
    simp only [fIx] at p
    split at p
    · rename_i d e
      obtain ⟨w, h1, h2⟩ := atI_dts r e
      exact .inr (.inl ⟨a, vs, i, w, rfl, rfl, h, h1, p.ok so h2⟩)
    · exact p.elim
  · rename_i a n ha i
    simp only [fIx] at p
    split at p
    · rename_i xs e
      split at p
      · rename_i d e2
        obtain ⟨vs, h1, r1⟩ := so.lst (lstAt_eq e) ha
        obtain ⟨w, h3, h4⟩ := atI_dts r1 e2
        exact .inl ⟨a, vs, i, w, rfl, rfl, SqL.of h1, h3, p.ok so h4⟩
      · exact p.elim
    · exact p.elim
theorem de_ix {a b : Expr} {da db : DX} {pos : Pos} (ha : DE X W a da) (hb : DE X W b db) (hs : PlainIx b := by exact fun _ _ => rfl) : DE X W (.Subscript a b pos) (dOp fIx da db) :=
  pe_imp (pe_ix ix_seq ha hb hs) fun σ H Q q => dop_read (r := rIx X.K) (fun φ H s x y v u Q so rx ry p => dx_read so rx ry p) q
/-! ### slices -/
abbrev DPt := Dn → M (Option Int)
def dNoPt : DPt := fun _ => mret none
def dPt (da : DX) : DPt := fun Δ => mbind (da Δ) fun x => match x with
  | .int i => mret (some i)
  | _ => mfail
def upO (K : PySem.W.Frag) (W : WX) (dp : DPt) : TO := fun σ H Q => ∃ Δ φ s, Sg K φ H σ Δ ∧ So K φ H s ∧ Ps K (wAt W σ) (fun _ _ (b b' : Option Int) => b = b') φ H (fun _ v H' _ _ => Q v H') (dp Δ s)
def DPO (X : Cx) (W : WX) (e : Option Expr) (dp : DPt) : Prop := PO X e (upO X.K W dp)
theorem po_imp {e : Option Expr} {t t' : TO} (h : PO X e t) (f : ∀ σ H Q, t' σ H Q → t σ H Q) : PO X e t' := ⟨fun pins s σ H Q I q => h.run pins s σ H Q I (f _ _ _ q)⟩
theorem dp_none : DPO X W none dNoPt := po_imp po_none fun σ H Q ⟨Δ, φ, s, hσ, hs, h⟩ => h.ok hs rfl
theorem dp_some {e : Expr} {da : DX} (h : DE X W e da) : DPO X W (some e) (dPt da) := po_imp (po_some h) fun σ H Q ⟨Δ, φ, s, hσ, hs, h⟩ => upE_bind hσ hs h fun φ1 v H1 x s1 f1 hσ1 hs1 rx h1 => by
  cases rx <;> first | exact h1.elim | skip
  exact ⟨_, rfl, h1.ok hs1 rfl⟩
def cutD (xs : List D) (lo hi : Option Int) : List D := (xs.drop (HT.sIx xs.length 0 lo)).take (HT.sIx xs.length xs.length hi - HT.sIx xs.length 0 lo)
theorem cut_dts {K : PySem.W.Frag} {φ : List Addr} {H : Hp} {vs : List V} {ds : List D} (r : Dts K φ H vs ds) (lo hi : Option Int) : Dts K φ H (cutV vs lo hi) (cutD ds lo hi) := by
  unfold cutV cutD
  rw [r.length]
  exact (r.drop _).take _
abbrev OpS := D → Option Int → Option Int → Sto → Option (D × Sto)
def liftS (f : OpS) (x : D) (lo hi : Option Int) : M D := fun s => match f x lo hi s with
  | some (d, s') => some (.ok d, s')
  | none => none
theorem PsO.ofS {K : PySem.W.Frag} {W : WK} {φ : List Addr} {H : Hp} {Q : VK} {f : OpS} {x : D} {lo hi : Option Int} {s : Sto} (h : Ps K W (Dt K) φ H (fun _ v H' _ _ => Q v H') (liftS f x lo hi s)) : PsO K φ H Q (f x lo hi s) := by
  unfold liftS at h
  split at h
  · rename_i e
    rw [e]
    exact h
  · exact h.elim
/-- list or text -/
def fSl : OpS := fun x lo hi s => match x with
  | .obj n => match lstAt s n with
    | some xs => some (.obj s.length, s ++ [.lst (cutD xs lo hi)])
    | none => none
  | .str z => if z.length ≤ sizeLine then some (.str (cutS z lo hi), s) else none
  | .fz xs => some (.obj s.length, s ++ [.lst (cutD xs lo hi)])
  | _ => none
def dSl (f : OpS) (da : DX) (dl dh : DPt) : DX := fun Δ => mbind (da Δ) fun x => mbind (dl Δ) fun lo => mbind (dh Δ) fun hi => liftS f x lo hi
theorem upO_bind {K : PySem.W.Frag} {W : WX} {γ δ : Type} {R' : List Addr → Hp → δ → γ → Prop} {σ : L2.St} {Δ : Dn} {φ : List Addr} {H : Hp} {s : Sto} {C : List Addr → δ → Hp → γ → Sto → Prop} {de : DPt} {k : Option Int → M γ} {Q : Option Int → Hp → Prop} (hσ : Sg K φ H σ Δ) (hs : So K φ H s)
    (h : Ps K (wAt W σ) R' φ H C (mbind (de Δ) k s)) (q : ∀ φ1 H1 d s1, Fu K φ φ1 H H1 → Sg K φ1 H1 σ Δ → So K φ1 H1 s1 → Ps K (wAt W σ) R' φ1 H1 C (k d s1) → Q d H1) : upO K W de σ H Q :=
  ⟨Δ, φ, s, hσ, hs, Ps.mono (fun φ1 v H1 d s1 z => by
    obtain ⟨z1, z2, z3, z4⟩ := z
    subst z3
    exact q φ1 H1 _ s1 z1 (hσ.fu z1) z2 z4) (Ps.bind h)⟩
theorem de_sl {e : Expr} {lo hi : Option Expr} {da : DX} {dl dh : DPt} {pos p2 : Pos} (he : DE X W e da) (hl : DPO X W lo dl) (hh : DPO X W hi dh) : DE X W (.Subscript e (.Slice lo hi none p2) pos) (dSl fSl da dl dh) :=
  pe_imp (pe_slice (sl_list.or sl_str) he hl hh) fun σ H Q ⟨Δ, φ, s, hσ, hs, h⟩ => upE_bind hσ hs h fun φ1 v H1 x s1 f1 hσ1 hs1 rx h1 =>
    upO_bind hσ1 hs1 h1 fun φ2 H2 l s2 f2 hσ2 hs2 h2 => upO_bind hσ2 hs2 h2 fun φ3 H3 u s3 f3 hσ3 hs3 h3 => by
      have p := PsO.ofS h3
      have rx3 := (rx.fu f2).fu f3
      cases rx3 <;> first | exact p.elim | skip
      · rename_i z
        simp only [fSl] at p
        split at p
        · rename_i hz
          exact .inr ⟨z, rfl, hz, p.ok hs3 (.str _)⟩
        · exact p.elim
      · rename_i a n ha
        simp only [fSl] at p
        split at p
        · rename_i xs e
          obtain ⟨vs, k, r⟩ := hs3.lst (lstAt_eq e) ha
          exact .inl ⟨a, vs, rfl, SqL.of k, fun q hq => p.newL hs3 hq (cut_dts r _ _)⟩
        · exact p.elim
      · rename_i a vs ds h r
        exact .inl ⟨a, vs, rfl, h.sq, fun q hq => p.newL hs3 hq (cut_dts r _ _)⟩
/-! ### built-in calls -/
def fLen : OpN := fun xs s => match xs with
  | [.obj n] => match lstAt s n with
    | some xs => some (.int xs.length, s)
    | none => none
  | [.tup xs] => some (.int xs.length, s)
  | [.str z] => if z.length ≤ sizeLine then some (.int z.length, s) else none
  | _ => none
theorem dc_len : DCall X (.builtin "len") fLen := by
  refine ⟨fun vs H Q => (∃ p ys, vs = [.ref p] ∧ (SqL X.K H p ys ∨ SqT X.K H p ys) ∧ Q (.int ys.length) H) ∨ (∃ z, vs = [.str z] ∧ z.length ≤ sizeLine ∧ Q (.int z.length) H), fun pins s σ H vs us Q I rv hq => ?_, fun φ H s vs ds Q so rx p => ?_⟩
  · rcases hq with hq | hq
    · exact call_len_seq pins s σ H vs us Q I rv hq
    · exact call_len_str pins s σ H vs us Q I rv hq
  · cases rx with
    | nil => exact p.elim
    | cons r1 r2 =>
      cases r2 with
      | cons _ _ => cases r1 <;> exact p.elim
      | nil =>
        cases r1 <;> first | exact p.elim | skip
        · rename_i z
          simp only [fLen] at p
          split at p
          · rename_i hz
            exact .inr ⟨z, rfl, hz, p.ok so (.int _)⟩
          · exact p.elim
        · rename_i a vs ds h r
          exact .inl ⟨a, vs, rfl, .inr h, by rw [r.length]; exact p.ok so (.int _)⟩
        · rename_i a n ha
          simp only [fLen] at p
          split at p
          · rename_i xs e
            obtain ⟨vs, k, r⟩ := so.lst (lstAt_eq e) ha
            exact .inl ⟨a, vs, rfl, .inl (SqL.of k), by rw [r.length]; exact p.ok so (.int _)⟩
          · exact p.elim
def fInt : OpN := fun xs s => match xs with
  | [.int i] => some (.int i, s)
  | [.bl k] => some (.int (if k then 1 else 0), s)
  | _ => none
theorem dts1 {K : PySem.W.Frag} {φ : List Addr} {H : Hp} {vs : List V} {x : D} (r : Dts K φ H vs [x]) : ∃ v, vs = [v] ∧ Dt K φ H v x := by
  cases r with
  | cons r1 r2 => cases r2; exact ⟨_, rfl, r1⟩
theorem dts2 {K : PySem.W.Frag} {φ : List Addr} {H : Hp} {vs : List V} {x y : D} (r : Dts K φ H vs [x, y]) : ∃ v u, vs = [v, u] ∧ Dt K φ H v x ∧ Dt K φ H u y := by
  cases r with
  | cons r1 r2 => cases r2 with
    | cons r2 r3 => cases r3; exact ⟨_, _, rfl, r1, r2⟩
theorem dc_int : DCall X (.type "int") fInt := ⟨_, call_int1, fun φ H s vs ds Q so rx p => by
  unfold fInt at p
  split at p
  · obtain ⟨v, rfl, r⟩ := dts1 rx
    cases r
    exact .inl ⟨_, rfl, p.ok so (.int _)⟩
  · obtain ⟨v, rfl, r⟩ := dts1 rx
    cases r
    exact .inr ⟨_, rfl, p.ok so (.int _)⟩
  · exact p.elim⟩
def fBool : OpN := fun xs s => match xs with
  | [.int i] => some (.bl (i != 0), s)
  | [.bl k] => some (.bl k, s)
  | _ => none
theorem dc_bool : DCall X (.type "bool") fBool := ⟨_, call_bool1, fun φ H s vs ds Q so rx p => by
  unfold fBool at p
  split at p
  · obtain ⟨v, rfl, r⟩ := dts1 rx
    cases r
    exact .inl ⟨_, rfl, p.ok so (.bl _)⟩
  · obtain ⟨v, rfl, r⟩ := dts1 rx
    cases r
    exact .inr ⟨_, rfl, p.ok so (.bl _)⟩
  · exact p.elim⟩
def maxI (i j : Int) : Int := if j > i then j else i
def minI (i j : Int) : Int := if j < i then j else i
def intsOf : List D → Option (List Int)
  | [] => some []
  | .int i :: r => (intsOf r).map (i :: ·)
  | _ :: _ => none
theorem intsOf_eq : ∀ {xs : List D} {ns : List Int}, intsOf xs = some ns → xs = ns.map D.int
  | [], _, e => by cases e; rfl
  | .int i :: r, _, e => by
    simp only [intsOf, Option.map_eq_some_iff] at e
    obtain ⟨ms, e, rfl⟩ := e
    rw [intsOf_eq e]
    rfl
  | .non :: _, _, e => by cases e
  | .bl _ :: _, _, e => by cases e
  | .str _ :: _, _, e => by cases e
  | .tup _ :: _, _, e => by cases e
  | .obj _ :: _, _, e => by cases e
  | .adr _ :: _, _, e => by cases e
  | .ty _ :: _, _, e => by cases e
  | .fz _ :: _, _, e => by cases e
def maxL : List Int → Int
  | [] => 0
  | a :: r => r.foldl maxI a
def minL : List Int → Int
  | [] => 0
  | a :: r => r.foldl minI a
theorem fold_max : ∀ (r : List Int) (a : Int), (r.foldl maxI a ∈ a :: r) ∧ ∀ y ∈ a :: r, y ≤ r.foldl maxI a
  | [], a => ⟨by simp, fun y hy => by simp at hy; subst hy; exact Int.le_refl _⟩
  | b :: r, a => by
    obtain ⟨h1, h2⟩ := fold_max r (maxI a b)
    have hm : maxI a b = a ∨ maxI a b = b := by unfold maxI; split <;> simp
    have h0 : a ≤ maxI a b ∧ b ≤ maxI a b := by unfold maxI; split <;> omega
    refine ⟨?_, fun y hy => ?_⟩
    · rw [List.foldl_cons]
      rcases List.mem_cons.mp h1 with h1 | h1
      · rw [h1]; rcases hm with h | h <;> rw [h] <;> simp
      · simp [h1]
    · rw [List.foldl_cons]
      have h3 := h2 (maxI a b) (by simp)
      rcases List.mem_cons.mp hy with rfl | hy
      · exact Int.le_trans h0.1 h3
      · rcases List.mem_cons.mp hy with rfl | hy
        · exact Int.le_trans h0.2 h3
        · exact h2 y (List.mem_cons_of_mem _ hy)
theorem fold_min : ∀ (r : List Int) (a : Int), (r.foldl minI a ∈ a :: r) ∧ ∀ y ∈ a :: r, r.foldl minI a ≤ y
  | [], a => ⟨by simp, fun y hy => by simp at hy; subst hy; exact Int.le_refl _⟩
  | b :: r, a => by
    obtain ⟨h1, h2⟩ := fold_min r (minI a b)
    have hm : minI a b = a ∨ minI a b = b := by unfold minI; split <;> simp
    have h0 : minI a b ≤ a ∧ minI a b ≤ b := by unfold minI; split <;> omega
    refine ⟨?_, fun y hy => ?_⟩
    · rw [List.foldl_cons]
      rcases List.mem_cons.mp h1 with h1 | h1
      · rw [h1]; rcases hm with h | h <;> rw [h] <;> simp
      · simp [h1]
    · rw [List.foldl_cons]
      have h3 := h2 (minI a b) (by simp)
      rcases List.mem_cons.mp hy with rfl | hy
      · exact Int.le_trans h3 h0.1
      · rcases List.mem_cons.mp hy with rfl | hy
        · exact Int.le_trans h3 h0.2
        · exact h2 y (List.mem_cons_of_mem _ hy)
theorem maxL_of {ns : List Int} {m : Int} (h0 : 0 < ns.length) (h1 : m ∈ ns) (h2 : ∀ y ∈ ns, y ≤ m) : m = maxL ns := by
  cases ns with
  | nil => cases h0
  | cons a r =>
    obtain ⟨h3, h4⟩ := fold_max r a
    exact Int.le_antisymm (h4 m h1) (h2 _ h3)
theorem minL_of {ns : List Int} {m : Int} (h0 : 0 < ns.length) (h1 : m ∈ ns) (h2 : ∀ y ∈ ns, m ≤ y) : m = minL ns := by
  cases ns with
  | nil => cases h0
  | cons a r =>
    obtain ⟨h3, h4⟩ := fold_min r a
    exact Int.le_antisymm (h2 _ h3) (h4 m h1)
theorem lst_ints {K : PySem.W.Frag} {φ : List Addr} {H : Hp} {s : Sto} {n : Nat} {a : Addr} {xs : List D} {ns : List Int} (so : So K φ H s) (e : lstAt s n = some xs) (e2 : intsOf xs = some ns) (ha : φ[n]? = some a) : SqL K H a (ns.map V.int) := by
  obtain ⟨vs, k, r⟩ := so.lst (lstAt_eq e) ha
  rw [intsOf_eq e2] at r
  rw [r.ints] at k
  exact SqL.of k
/-- of a list of ints -/
def fLs (g : List Int → Int) (c : List Int → Bool) : OpN := fun xs s => match xs with
  | [.obj n] => match lstAt s n with
    | some ys => match intsOf ys with
      | some ns => if c ns = true then some (.int (g ns), s) else none
      | none => none
    | none => none
  | _ => none
theorem fls_read {g : List Int → Int} {c : List Int → Bool} {φ : List Addr} {H : Hp} {s : Sto} {vs : List V} {ds : List D} {Q : VK} (so : So X.K φ H s) (rx : Dts X.K φ H vs ds) (p : PsO X.K φ H Q (fLs g c ds s)) :
    ∃ (a : Addr) (ns : List Int), vs = [V.ref a] ∧ SqL X.K H a (ns.map V.int) ∧ c ns = true ∧ Q (.int (g ns)) H := by
  unfold fLs at p
  split at p
  · obtain ⟨v, rfl, r⟩ := dts1 rx
    cases r
    rename_i n a ha
    split at p
    · rename_i ys e
      split at p
      · rename_i ns e2
        split at p
        · rename_i hc
          exact ⟨a, ns, rfl, lst_ints so e e2 ha, hc, p.ok so (.int _)⟩
        · exact p.elim
      · exact p.elim
    · exact p.elim
  · exact p.elim
def fSum : OpN := fLs List.sum fun _ => true
theorem dc_sum (hc : X.calm = true) : DCall X (.builtin "sum") fSum := ⟨_, cr_sum hc, fun φ H s vs ds Q so rx p => by
  obtain ⟨a, ns, h1, h2, _, h3⟩ := fls_read so rx p
  exact ⟨a, ns, h1, h2, h3⟩⟩
def fMaxL : OpN := fLs maxL fun ns => decide (0 < ns.length)
def fMinL : OpN := fLs minL fun ns => decide (0 < ns.length)
theorem dc_maxL (hc : X.calm = true) : DCall X (.builtin "max") fMaxL := ⟨_, cr_max hc, fun φ H s vs ds Q so rx p => by
  obtain ⟨a, ns, h1, h2, h0, h3⟩ := fls_read so rx p
  exact ⟨a, ns, h1, h2, of_decide_eq_true h0, fun m hm hy => by rw [maxL_of (of_decide_eq_true h0) hm hy]; exact h3⟩⟩
theorem dc_minL (hc : X.calm = true) : DCall X (.builtin "min") fMinL := ⟨_, cr_min hc, fun φ H s vs ds Q so rx p => by
  obtain ⟨a, ns, h1, h2, h0, h3⟩ := fls_read so rx p
  exact ⟨a, ns, h1, h2, of_decide_eq_true h0, fun m hm hy => by rw [minL_of (of_decide_eq_true h0) hm hy]; exact h3⟩⟩
def f2I (g : Int → Int → Int) : OpN := fun xs s => match xs with
  | [.int i, .int j] => some (.int (g i j), s)
  | _ => none
theorem dc_max2 (hc : X.calm = true) : DCall X (.builtin "max") (f2I maxI) := ⟨_, call_max2 hc, fun φ H s vs ds Q so rx p => by
  unfold f2I at p
  split at p
  · obtain ⟨v, u, rfl, r1, r2⟩ := dts2 rx
    cases r1
    cases r2
    exact ⟨_, _, rfl, p.ok so (.int _)⟩
  · exact p.elim⟩
theorem dc_min2 (hc : X.calm = true) : DCall X (.builtin "min") (f2I minI) := ⟨_, call_min2 hc, fun φ H s vs ds Q so rx p => by
  unfold f2I at p
  split at p
  · obtain ⟨v, u, rfl, r1, r2⟩ := dts2 rx
    cases r1
    cases r2
    exact ⟨_, _, rfl, p.ok so (.int _)⟩
  · exact p.elim⟩
def fMax : OpN := orN (f2I maxI) fMaxL
def fMin : OpN := orN (f2I minI) fMinL
theorem dc_max (hc : X.calm = true) : DCall X (.builtin "max") fMax := (dc_max2 hc).or (dc_maxL hc)
theorem dc_min (hc : X.calm = true) : DCall X (.builtin "min") fMin := (dc_min2 hc).or (dc_minL hc)
/-- list(x), tuple(x) -/
def fTuple : OpN := fun xs s => match xs with
  | [.obj n] => match lstAt s n with
    | some ys => some (.tup ys, s)
    | none => none
  | [.tup ys] => some (.tup ys, s)
  | _ => none
theorem dc_tuple : DCall X (.type "tuple") fTuple := ⟨_, call_tuple_of, fun φ H s vs ds Q so rx p => by
  unfold fTuple at p
  split at p
  · obtain ⟨v, rfl, r⟩ := dts1 rx
    cases r
    rename_i n a ha
    split at p
    · rename_i ys e
      obtain ⟨ws, k, r⟩ := so.lst (lstAt_eq e) ha
      exact ⟨a, ws, rfl, .inl ⟨SqL.of k, fun l hl => p.newT so hl r⟩⟩
    · exact p.elim
  · obtain ⟨v, rfl, r⟩ := dts1 rx
    cases r
    rename_i h r
    exact ⟨_, _, rfl, .inr ⟨h, p.ok so (.tup h r)⟩⟩
  · exact p.elim⟩
def fList : OpN := fun xs s => match xs with
  | [.obj n] => match lstAt s n with
    | some ys => some (.obj s.length, s ++ [.lst ys])
    | none => none
  | [.tup ys] => some (.obj s.length, s ++ [.lst ys])
  | _ => none
theorem dc_list : DCall X (.type "list") fList := ⟨_, call_list_of, fun φ H s vs ds Q so rx p => by
  unfold fList at p
  split at p
  · obtain ⟨v, rfl, r⟩ := dts1 rx
    cases r
    rename_i n a ha
    split at p
    · rename_i ys e
      obtain ⟨ws, k, r⟩ := so.lst (lstAt_eq e) ha
      exact ⟨a, ws, rfl, .inl (SqL.of k), fun l hl => p.newL so hl r⟩
    · exact p.elim
  · obtain ⟨v, rfl, r⟩ := dts1 rx
    cases r
    rename_i h r
    exact ⟨_, _, rfl, .inr h, fun l hl => p.newL so hl r⟩
  · exact p.elim⟩
/-- isinstance of a built-in type -/
inductive Kd where
  | non | bl | int | str | tup | lst | dct
def Kd.name : Kd → String
  | .non => "NoneType" | .bl => "bool" | .int => "int" | .str => "str" | .tup => "tuple" | .lst => "list" | .dct => "dict"
def kdOf (x : D) (s : Sto) : Option Kd := match x with
  | .non => some .non
  | .bl _ => some .bl
  | .int _ => some .int
  | .str _ => some .str
  | .tup _ => some .tup
  | .obj n => match s[n]? with
    | some (.lst _) => some .lst
    | some (.dK _) => some .dct
    | some (.dT _) => some .dct
    | _ => none
  | _ => none
def Kd.is (k : Kd) (n : String) : Bool := match k with
  | .bl => n == "bool" || n == "int"
  | k => k.name == n
def tyNames : List String := ["bool", "int", "str", "tuple", "list", "dict"]
theorem kd_ok : ∀ n ∈ tyNames, ∀ k : Kd, kitB k.name n = some (k.is n) := by
  intro n hn k
  simp only [tyNames, List.mem_cons, List.not_mem_nil, or_false] at hn
  rcases hn with rfl | rfl | rfl | rfl | rfl | rfl <;> cases k <;> decide +kernel
def fIsi : OpN := fun xs s => match xs with
  | [x, .ty n] => if n ∈ tyNames then match kdOf x s with
    | some k => some (.bl (k.is n), s)
    | none => none else none
  | _ => none
theorem kd_ty {φ : List Addr} {H : Hp} {s : Sto} {v : V} {x : D} {k : Kd} (so : So X.K φ H s) (r : Dt X.K φ H v x) (e : kdOf x s = some k) : TyX X.K H v (.type k.name) := by
  cases r <;> first | (cases e; done) | skip
  · cases e; exact .base (.non)
  · cases e; exact .base (.bl _)
  · cases e; exact .base (.int _)
  · cases e; exact .base (.str _)
  · cases e
    rename_i h r
    rcases h with (h | ⟨o, h⟩) | ⟨o, its, n, h, hc, _⟩
    · exact .base (.tup h)
    · exact .fTuple h
    · exact .kTuple h hc
  · rename_i a n ha
    simp only [kdOf] at e
    split at e
    · cases e
      rename_i q
      obtain ⟨b, hb, vs, k, _⟩ := so.at q
      rw [ha] at hb
      cases hb
      exact .base (.lst k)
    · cases e
      rename_i q
      obtain ⟨b, hb, vs, k, _⟩ := so.at q
      rw [ha] at hb
      cases hb
      exact .base (.dK k)
    · cases e
      rename_i q
      obtain ⟨b, hb, vs, k, _⟩ := so.at q
      rw [ha] at hb
      cases hb
      exact .base (.dT k)
    · cases e
theorem dc_isi : DCall X (.builtin "isinstance") fIsi := ⟨_, call_isi, fun φ H s vs ds Q so rx p => by
  unfold fIsi at p
  split at p
  · rename_i x n
    obtain ⟨v, u, rfl, r1, r2⟩ := dts2 rx
    cases r2
    split at p
    · rename_i hn
      split at p
      · rename_i k e
        exact ⟨v, .ty n, .type k.name, .type n, k.is n, rfl, .ty n, kd_ty so r1 e, kit_ty (kd_ok n hn k), p.ok so (.bl _)⟩
      · exact p.elim
    · exact p.elim
  · exact p.elim⟩
end
end DV

namespace DV
open PySem L2 PyProof.Rows
/-! ### methods of built-in types -/
abbrev OpM := D → List D → Sto → Option (D × Sto)
def liftM (f : OpM) (x : D) (xs : List D) : M D := fun s => match f x xs s with
  | some (d, s') => some (.ok d, s')
  | none => none
theorem PsO.ofM {K : PySem.W.Frag} {W : WK} {φ : List Addr} {H : Hp} {Q : VK} {f : OpM} {x : D} {xs : List D} {s : Sto} (h : Ps K W (Dt K) φ H (fun _ v H' _ _ => Q v H') (liftM f x xs s)) : PsO K φ H Q (f x xs s) := by
  unfold liftM at h
  split at h
  · rename_i e
    rw [e]
    exact h
  · exact h.elim
/-- the receiver has the type T -/
def tyD (T : String) (x : D) (s : Sto) : Bool := match x with
  | .str _ => T == "str"
  | .int _ => T == "int"
  | .obj n => match s[n]? with
    | some (.lst _) => T == "list"
    | some (.dK _) => T == "dict"
    | some (.dT _) => T == "dict"
    | _ => false
  | _ => false
theorem tyD_ok {K : PySem.W.Frag} {φ : List Addr} {H : Hp} {s : Sto} {T : String} {v : V} {x : D} (so : So K φ H s) (r : Dt K φ H v x) (e : tyD T x s = true) : tyV K T v H := by
  cases r <;> first | (cases e; done) | skip
  · exact eq_of_beq e
  · exact eq_of_beq e
  · rename_i a n ha
    simp only [tyD] at e
    split at e
    · rename_i q
      obtain ⟨b, hb, vs, k, _⟩ := so.at q
      rw [ha] at hb
      cases hb
      exact .inl ⟨eq_of_beq e, vs, SqL.of k⟩
    · rename_i q
      obtain ⟨b, hb, vs, k, _⟩ := so.at q
      rw [ha] at hb
      cases hb
      exact .inr (.inr (.inl ⟨eq_of_beq e, .inl ⟨vs, k⟩⟩))
    · rename_i q
      obtain ⟨b, hb, vs, k, _⟩ := so.at q
      rw [ha] at hb
      cases hb
      exact .inr (.inr (.inl ⟨eq_of_beq e, .inr ⟨vs, k⟩⟩))
    · cases e
def DMt (X : Cx) (id : String) (f : OpM) : Prop := ∃ r, MtR X id r ∧ ∀ φ H s v x vs xs Q, So X.K φ H s → Dt X.K φ H v x → Dts X.K φ H vs xs → PsO X.K φ H Q (f x xs s) → r v vs H Q
def orM (f g : OpM) : OpM := fun x xs s => match f x xs s with
  | some r => some r
  | none => g x xs s
def mTy (T : String) (x : D) : M Unit := fun s => if tyD T x s = true then some (.ok (), s) else none
def dBM (T : String) (f : OpM) (dx : DX) (da : DA) : DX := fun Δ => mbind (dx Δ) fun x => mbind (mTy T x) fun _ => mbind (da Δ) fun xs => liftM f x xs
section
variable {X : Cx} {W : WX}
theorem mTy_bind {K : PySem.W.Frag} {φ : List Addr} {H : Hp} {s : Sto} {T : String} {x : D} {γ δ : Type} {R' : List Addr → Hp → δ → γ → Prop} {W : WK} {C : List Addr → δ → Hp → γ → Sto → Prop} {k : Unit → M γ}
    (h : Ps K W R' φ H C (mbind (mTy T x) k s)) : tyD T x s = true ∧ Ps K W R' φ H C (k () s) := by
  unfold mbind mTy at h
  by_cases e : tyD T x s = true
  · rw [if_pos e] at h
    exact ⟨e, h⟩
  · rw [if_neg e] at h
    exact h.elim
theorem de_bm {T id : String} {name : Str} {f : OpM} {o e : Expr} {es : List Expr} {dx : DX} {da : DA} {apos cpos : Pos} (pa : PlainAttrs T) (slot : Slot T name id) (hty : typeOf (.builtin id) = pure (.type "method_descriptor")) (hm : DMt X id f) (ho : DE X W o dx) (ha : DAs X W (e :: es) da)
    (hbase : attributeBase o name X.env (eval o X.env) = eval o X.env := by rfl)
    (hfew : ((backTo cpos (starEach (e :: es) X.env)).all (fun x => !x.1) && (backToKw cpos (keywordEach [] X.env)).all (fun x => x.1.isSome) && decide ((e :: es).length + ([] : List Keyword).length + (if ([] : List Keyword).isEmpty then 0 else 1) < 30)) = true := by rfl)
    (hline : (apos.endLine == cpos.line) = true := by rfl) (hs : starEach (e :: es) X.env = (false, eval e X.env) :: starEach es X.env := by rfl) (hplain : (backTo cpos (starEach es X.env)).any (·.1) = false := by rfl) :
    DE X W (.Call (.Attribute o name apos) (e :: es) [] cpos) (dBM T f dx da) := by
  obtain ⟨r, h, hr⟩ := hm
  exact pe_imp (pe_bm pa slot hty h ho ha hbase hfew hline hs hplain) fun σ H Q ⟨Δ, φ, s, hσ, hs, h⟩ => upE_bind hσ hs h fun φ1 v H1 x s1 f1 hσ1 hs1 rx h1 => by
    obtain ⟨ty, h1⟩ := mTy_bind h1
    exact ⟨tyD_ok hs1 rx ty, upA_bind hσ1 hs1 h1 fun φ2 vs H2 xs s2 f2 hσ2 hs2 rs h2 => hr φ2 H2 s2 v x vs xs Q hs2 (rx.fu f2) rs (PsO.ofM h2)⟩
theorem de_bm0 {T id : String} {name : Str} {f : OpM} {o : Expr} {dx : DX} {apos cpos : Pos} (pa : PlainAttrs T) (slot : Slot T name id) (hty : typeOf (.builtin id) = pure (.type "method_descriptor")) (hm : DMt X id f) (ho : DE X W o dx)
    (hbase : attributeBase o name X.env (eval o X.env) = eval o X.env := by rfl) (hline : (apos.endLine == cpos.line) = true := by rfl) : DE X W (.Call (.Attribute o name apos) [] [] cpos) (dBM T f dx dNil) := by
  obtain ⟨r, h, hr⟩ := hm
  exact pe_imp (pe_bm0 pa slot hty h ho hbase hline) fun σ H Q ⟨Δ, φ, s, hσ, hs, h⟩ => upE_bind hσ hs h fun φ1 v H1 x s1 f1 hσ1 hs1 rx h1 => by
    obtain ⟨ty, h1⟩ := mTy_bind h1
    exact ⟨tyD_ok hs1 rx ty, hr φ1 H1 s1 v x [] [] Q hs1 rx .nil (PsO.ofM h1)⟩
def fAppend : OpM := fun x xs s => match x, xs with
  | .obj n, [y] => match lstAt s n with
    | some ys => if ys.length < sizeLine then some (.non, s.set n (.lst (ys ++ [y]))) else none
    | none => none
  | _, _ => none
theorem dm_append : DMt X "list.append" fAppend := ⟨_, mt_append, fun φ H s v x vs xs Q so rx rs p => by
  unfold fAppend at p
  split at p
  · rename_i n y
    obtain ⟨u, rfl, r⟩ := dts1 rs
    cases rx
    rename_i a ha
    split at p
    · rename_i ys e
      split at p
      · rename_i hz
        obtain ⟨ws, k, rw⟩ := so.lst (lstAt_eq e) ha
        exact ⟨a, ws, u, rfl, rfl, k, by rw [rw.length]; exact hz, p.set so ha (rw.append (.cons r .nil)) .non⟩
      · exact p.elim
    · exact p.elim
  · exact p.elim⟩
def fExtend : OpM := fun x xs s => match x, xs with
  | .obj n, [.obj m] => match lstAt s n, lstAt s m with
    | some ys, some zs => if ys.length + zs.length ≤ sizeLine then some (.non, s.set n (.lst (ys ++ zs))) else none
    | _, _ => none
  | _, _ => none
theorem dm_extend : DMt X "list.extend" fExtend := ⟨_, mt_extend, fun φ H s v x vs xs Q so rx rs p => by
  unfold fExtend at p
  split at p
  · rename_i n m
    obtain ⟨u, rfl, r⟩ := dts1 rs
    cases rx
    cases r
    rename_i a ha b hb
    split at p
    · rename_i ys zs e e'
      split at p
      · rename_i hz
        obtain ⟨ws, k, rw⟩ := so.lst (lstAt_eq e) ha
        obtain ⟨ws', k', rw'⟩ := so.lst (lstAt_eq e') hb
        exact ⟨a, b, ws, ws', rfl, rfl, k, k', by rw [rw.length, rw'.length]; exact hz, p.set so ha (rw.append rw') .non⟩
      · exact p.elim
    · exact p.elim
  · exact p.elim⟩
def fClear : OpM := fun x xs s => match x, xs with
  | .obj n, [] => match lstAt s n with
    | some _ => some (.non, s.set n (.lst []))
    | none => none
  | _, _ => none
theorem dm_clear : DMt X "list.clear" fClear := ⟨_, mt_clear, fun φ H s v x vs xs Q so rx rs p => by
  unfold fClear at p
  split at p
  · rename_i n
    cases rs
    cases rx
    rename_i a ha
    split at p
    · rename_i ys e
      obtain ⟨ws, k, rw⟩ := so.lst (lstAt_eq e) ha
      exact ⟨a, ws, rfl, rfl, k, p.set so ha .nil .non⟩
    · exact p.elim
  · exact p.elim⟩
/-- texts: of one text -/
def fS1 (g : Str → Str → D) (c : Str → Bool) : OpM := fun x xs s => match x, xs with
  | .str a, [.str b] => if c a = true then some (g a b, s) else none
  | _, _ => none
theorem dm_S1 {id : String} {g : Str → Str → D} {gV : Str → Str → V} {c : Str → Bool} {C : Str → Prop} (hr : MtR X id (fun x xs H Q => ∃ a b, x = .str a ∧ xs = [.str b] ∧ C a ∧ Q (gV a b) H)) (hc : ∀ a, c a = true → C a) (hg : ∀ a b φ H, Dt X.K φ H (gV a b) (g a b)) : DMt X id (fS1 g c) :=
  ⟨_, hr, fun φ H s v x vs xs Q so rx rs p => by
  unfold fS1 at p
  split at p
  · obtain ⟨u, rfl, r⟩ := dts1 rs
    cases rx
    cases r
    split at p
    · rename_i hz
      exact ⟨_, _, rfl, rfl, hc _ hz, p.ok so (hg _ _ _ _)⟩
    · exact p.elim
  · exact p.elim⟩
def lenOk (a : Str) : Bool := decide (a.length ≤ sizeLine)
def fStrip : OpM := fS1 (fun a b => .str (Txt.stripChars a b)) lenOk
theorem dm_strip : DMt X "str.strip" fStrip := dm_S1 mt_stripChars (fun _ h => of_decide_eq_true h) fun _ _ _ _ => .str _
def fRstrip : OpM := fS1 (fun a b => .str (Txt.rstripChars a b)) lenOk
theorem dm_rstrip : DMt X "str.rstrip" fRstrip := dm_S1 mt_rstripChars (fun _ h => of_decide_eq_true h) fun _ _ _ _ => .str _
def fEndswith : OpM := fS1 (fun a b => .bl (Txt.endswith a b)) fun _ => true
theorem dm_endswith : DMt X "str.endswith" fEndswith := ⟨_, mt_endswith, fun φ H s v x vs xs Q so rx rs p => by
  unfold fEndswith fS1 at p
  split at p
  · obtain ⟨u, rfl, r⟩ := dts1 rs
    cases rx
    cases r
    rw [if_pos rfl] at p
    exact ⟨_, _, rfl, rfl, p.ok so (.bl _)⟩
  · exact p.elim⟩
def strsOf : List D → Option (List Str)
  | [] => some []
  | .str i :: r => (strsOf r).map (i :: ·)
  | _ :: _ => none
theorem strsOf_dts {K : PySem.W.Frag} {φ : List Addr} {H : Hp} : ∀ {vs : List V} {xs : List D} {ys : List Str}, Dts K φ H vs xs → strsOf xs = some ys → vs = ys.map V.str
  | _, _, _, .nil, e => by cases e; rfl
  | _, _, _, .cons (.str i) r, e => by
    simp only [strsOf, Option.map_eq_some_iff] at e
    obtain ⟨ms, e, rfl⟩ := e
    rw [strsOf_dts r e]
    rfl
  | _, _, _, .cons .non _, e => by cases e
  | _, _, _, .cons (.bl _) _, e => by cases e
  | _, _, _, .cons (.int _) _, e => by cases e
  | _, _, _, .cons (.tup _ _) _, e => by cases e
  | _, _, _, .cons (.obj _) _, e => by cases e
  | _, _, _, .cons (.adr _) _, e => by cases e
  | _, _, _, .cons (.ty _) _, e => by cases e
  | _, _, _, .cons (.fz _ _) _, e => by cases e
def joinOk (a : Str) (ys : List Str) : Bool := decide ((ys.map (·.length)).sum + ys.length * a.length ≤ 16777216)
def fJoin : OpM := fun x xs s => match x, xs with
  | .str a, [.obj n] => match lstAt s n with
    | some zs => match strsOf zs with
      | some ys => if joinOk a ys = true then some (.str (Txt.join a ys), s) else none
      | none => none
    | none => none
  | _, _ => none
theorem dm_join : DMt X "str.join" fJoin := ⟨_, mt_join, fun φ H s v x vs xs Q so rx rs p => by
  unfold fJoin at p
  split at p
  · rename_i a n
    obtain ⟨u, rfl, r⟩ := dts1 rs
    cases rx
    cases r
    rename_i b hb
    split at p
    · rename_i zs e
      split at p
      · rename_i ys e2
        split at p
        · rename_i hz
          obtain ⟨ws, k, rw⟩ := so.lst (lstAt_eq e) hb
          rw [strsOf_dts rw e2] at k
          exact ⟨a, b, ys, rfl, rfl, .inl (SqL.of k), of_decide_eq_true hz, p.ok so (.str _)⟩
        · exact p.elim
      · exact p.elim
    · exact p.elim
  · exact p.elim⟩
/-- n.bit_length() -/
def fBits : Op1 := fun x s => match x with
  | .int i => some (.int (Builtin.Int.intBits i : Nat), s)
  | _ => none
theorem de_bits {o : Expr} {da : DX} {apos pos : Pos} (ho : DE X W o da) (hbase : attributeBase o "bit_length" X.env (eval o X.env) = eval o X.env := by rfl) (hline : (apos.endLine == pos.line) = true := by rfl) : DE X W (.Call (.Attribute o "bit_length" apos) [] [] pos) (dOp1 fBits da) :=
  pe_imp (pe_bits ho hbase hline) fun σ H Q ⟨Δ, φ, s, hσ, hs, h⟩ => upE_bind hσ hs h fun φ1 v H1 x s1 f1 hσ1 hs1 rx h1 => by
    have p := PsO.of1 h1
    cases rx <;> first | exact p.elim | skip
    exact ⟨_, rfl, p.ok hs1 (.int _)⟩
/-! ### fields of instances -/
theorem Prs.lookup {R : V → D → Prop} : ∀ {vs : List (Str × V)} {ds : List (Str × D)} {f : Str} {d : D}, Prs R vs ds → ds.lookup f = some d → ∃ v, vs.lookup f = some v ∧ R v d
  | _, _, f, _, .cons (k := k) h r, e => by
    rw [List.lookup_cons] at e ⊢
    split at e
    · cases e
      exact ⟨_, rfl, h⟩
    · exact Prs.lookup r e
theorem Prs.lookup_none {R : V → D → Prop} : ∀ {vs : List (Str × V)} {ds : List (Str × D)} {f : Str}, Prs R vs ds → ds.lookup f = none → vs.lookup f = none
  | _, _, _, .nil, _ => rfl
  | _, _, f, .cons (k := k) h r, e => by
    rw [List.lookup_cons] at e ⊢
    split at e
    · cases e
    · exact Prs.lookup_none r e
def insAt (s : Sto) (n : Nat) : Option (Addr × List (Str × D)) := match s[n]? with
  | some (.ins C fs) => some (C, fs)
  | _ => none
theorem insAt_eq {s : Sto} {n : Nat} {C : Addr} {fs : List (Str × D)} (h : insAt s n = some (C, fs)) : s[n]? = some (.ins C fs) := by
  unfold insAt at h
  split at h
  · cases h; assumption
  · cases h
/-- e.f of an instance of the class C -/
def fFld (C : Addr) (f : Str) : Op1 := fun x s => match x with
  | .obj n => match insAt s n with
    | some (C', fs) => if C' = C then match fs.lookup f with
      | some d => some (d, s)
      | none => none else none
    | none => none
  | _ => none
theorem de_fld {C : Addr} {f : Str} {e : Expr} {da : DX} {pos : Pos} (c : Cls X.K C) (nf : NoAttr X.K C f) (he : DE X W e da) (hb : attributeBase e f X.env (eval e X.env) = eval e X.env := by rfl) : DE X W (.Attribute e f pos) (dOp1 (fFld C f) da) :=
  pe_imp (pe_fld he hb) fun σ H Q ⟨Δ, φ, s, hσ, hs, h⟩ => upE_bind hσ hs h fun φ1 v H1 x s1 f1 hσ1 hs1 rx h1 => by
    have p := PsO.of1 h1
    unfold fFld at p
    split at p
    · rename_i n
      cases rx
      rename_i a ha
      split at p
      · rename_i C' fs e
        split at p
        · rename_i hC
          subst hC
          split at p
          · rename_i d e2
            obtain ⟨b, hb, dx, vs, k, r⟩ := hs1.at (insAt_eq e)
            rw [ha] at hb
            cases hb
            obtain ⟨w, h3, h4⟩ := r.lookup e2
            exact ⟨a, _, dx, vs, w, rfl, k, c, nf, h3, p.ok hs1 h4⟩
          · exact p.elim
        · exact p.elim
      · exact p.elim
    · exact p.elim
end
end DV

namespace DV
open PySem L2 PyProof.Rows
/-! ### statements -/
inductive SR where
  | nx (Δ : Dn) | rt (d : D) | bk (Δ : Dn) | ct (Δ : Dn) | ex (x : Xc) (Δ : Dn)
abbrev RS := Option (SR × Sto)
abbrev DS := Dn → Sto → RS
def PsS (K : PySem.W.Frag) (W : WX) (D : Ends) (φ : List Addr) (H : Hp) : RS → Prop
  | some (.nx Δ, s') => ∀ φ' σ' H', Fu K φ φ' H H' → So K φ' H' s' → Sg K φ' H' σ' Δ → D.nx σ' H'
  | some (.rt d, s') => ∀ φ' v H', Fu K φ φ' H H' → So K φ' H' s' → Dt K φ' H' v d → D.rt v H'
  | some (.bk Δ, s') => ∀ φ' σ' H', Fu K φ φ' H H' → So K φ' H' s' → Sg K φ' H' σ' Δ → D.bk σ' H'
  | some (.ct Δ, s') => ∀ φ' σ' H', Fu K φ φ' H H' → So K φ' H' s' → Sg K φ' H' σ' Δ → D.ct σ' H'
  | some (.ex x Δ, s') => ∀ φ' σ' H' c dd, Fu K φ φ' H H' → So K φ' H' s' → Sg K φ' H' σ' Δ → Xr K φ' H' c dd x → W c dd σ' H'
  | none => False
def upS (K : PySem.W.Frag) (W : WX) (ds : DS) : TS := fun D σ H => ∃ Δ φ s, Sg K φ H σ Δ ∧ So K φ H s ∧ PsS K W D φ H (ds Δ s)
def DSt (X : Cx) (W : WX) (st : Stmt) (ds : DS) : Prop := PS X st (upS X.K W ds)
def DSs (X : Cx) (W : WX) (sts : List Stmt) (ds : DS) : Prop := PSs X sts (upS X.K W ds)
theorem ps_imp {X : Cx} {st : Stmt} {t t' : TS} (h : PS X st t) (f : ∀ D σ H, t' D σ H → t D σ H) : PS X st t' := ⟨fun pins s σ H D I q => h.run pins s σ H D I (f _ _ _ q)⟩
theorem pss_imp {X : Cx} {st : List Stmt} {t t' : TS} (h : PSs X st t) (f : ∀ D σ H, t' D σ H → t D σ H) : PSs X st t' := ⟨fun pins s σ H D I q => h.run pins s σ H D I (f _ _ _ q)⟩
section
variable {K : PySem.W.Frag} {W : WX} {D : Ends} {φ φ' : List Addr} {H H' : Hp} {s s' : Sto} {σ : L2.St} {Δ : Dn}
theorem PsS.shift (f : Fu K φ φ' H H') : ∀ {r : RS}, PsS K W D φ H r → PsS K W D φ' H' r
  | some (.nx Δ, s'), h => fun ψ b G g so q => h ψ b G (f.trans g) so q
  | some (.rt Δ, s'), h => fun ψ b G g so q => h ψ b G (f.trans g) so q
  | some (.bk Δ, s'), h => fun ψ b G g so q => h ψ b G (f.trans g) so q
  | some (.ct Δ, s'), h => fun ψ b G g so q => h ψ b G (f.trans g) so q
  | some (.ex x Δ, s'), h => fun ψ b G c dd g so q x => h ψ b G c dd (f.trans g) so q x
  | none, h => h
/-- an expression, then -/
def sbind {α : Type} (m : M α) (Δ : Dn) (k : α → Sto → RS) : Sto → RS := fun s => match m s with
  | some (.ok a, s') => k a s'
  | some (.error x, s') => some (.ex x Δ, s')
  | none => none
theorem sb {α β : Type} {R : List Addr → Hp → β → α → Prop} {m : M α} {k : α → Sto → RS} (hσ : Sg K φ H σ Δ) (h : PsS K W D φ H (sbind m Δ k s)) :
    Ps K (wAt W σ) R φ H (fun φ1 b H1 a s1 => Fu K φ φ1 H H1 ∧ So K φ1 H1 s1 ∧ R φ1 H1 b a ∧ PsS K W D φ1 H1 (k a s1)) (m s) := by
  unfold sbind at h
  cases e : m s with
  | none => rw [e] at h; exact h.elim
  | some p =>
    obtain ⟨r, s'⟩ := p
    cases r with
    | ok a => rw [e] at h; exact fun ψ b G g so q => ⟨g, so, q, h.shift g⟩
    | error x => rw [e] at h; exact fun ψ G c dd g so q => h ψ σ G c dd g so (hσ.fu g) q
theorem sbE {de : DX} {k : DV.D → Sto → RS} {Q : VK} (hσ : Sg K φ H σ Δ) (hs : So K φ H s) (h : PsS K W D φ H (sbind (de Δ) Δ k s))
    (q : ∀ φ1 v H1 d s1, Fu K φ φ1 H H1 → Sg K φ1 H1 σ Δ → So K φ1 H1 s1 → Dt K φ1 H1 v d → PsS K W D φ1 H1 (k d s1) → Q v H1) : upE K W de σ H Q :=
  ⟨Δ, φ, s, hσ, hs, Ps.mono (fun φ1 v H1 d s1 z => q φ1 v H1 d s1 z.1 (hσ.fu z.1) z.2.1 z.2.2.1 z.2.2.2) (sb hσ h)⟩
theorem sbT {dt : DT} {k : Bool → Sto → RS} {Q : Bool → Hp → Prop} (hσ : Sg K φ H σ Δ) (hs : So K φ H s) (h : PsS K W D φ H (sbind (dt Δ) Δ k s))
    (q : ∀ φ1 b H1 s1, Fu K φ φ1 H H1 → Sg K φ1 H1 σ Δ → So K φ1 H1 s1 → PsS K W D φ1 H1 (k b s1) → Q b H1) : upT K W dt σ H Q :=
  ⟨Δ, φ, s, hσ, hs, Ps.mono (fun φ1 v H1 d s1 z => by
    obtain ⟨z1, z2, z3, z4⟩ := z
    subst z3
    exact q φ1 _ H1 s1 z1 (hσ.fu z1) z2 z4) (sb hσ h)⟩
end
/-! ### targets -/
theorem Dt.tupI {K : PySem.W.Frag} {φ : List Addr} {H : Hp} {v : V} {xs : List D} (h : Dt K φ H v (.tup xs)) : ∃ a vs, v = .ref a ∧ SqT K H a vs ∧ Dts K φ H vs xs := by
  cases h with
  | tup h r => exact ⟨_, _, rfl, h, r⟩
abbrev DGf := D → Dn → Sto → Option (Dn × Sto)
def PsG (K : PySem.W.Frag) (φ : List Addr) (H : Hp) (Q : L2.St → Hp → Prop) : Option (Dn × Sto) → Prop
  | some (Δ, s') => ∀ φ' σ' H', Fu K φ φ' H H' → So K φ' H' s' → Sg K φ' H' σ' Δ → Q σ' H'
  | none => False
def upG (K : PySem.W.Frag) (g : DGf) : TG := fun v σ H Q => ∃ d Δ φ s, Dt K φ H v d ∧ Sg K φ H σ Δ ∧ So K φ H s ∧ PsG K φ H Q (g d Δ s)
def upGs (K : PySem.W.Frag) (g : List D → Dn → Sto → Option (Dn × Sto)) : TGs := fun v σ H Q => ∃ d Δ φ s, Dts K φ H v d ∧ Sg K φ H σ Δ ∧ So K φ H s ∧ PsG K φ H Q (g d Δ s)
def DGt (X : Cx) (e : Expr) (g : DGf) : Prop := PG X e (upG X.K g)
def DGs (X : Cx) (es : List Expr) (g : List D → Dn → Sto → Option (Dn × Sto)) : Prop := PGs X es (upGs X.K g)
theorem pg_imp {X : Cx} {e : Expr} {t t' : TG} (h : PG X e t) (f : ∀ v σ H Q, t' v σ H Q → t v σ H Q) : PG X e t' := ⟨fun pins s σ H v u Q I r q => h.run pins s σ H v u Q I r (f _ _ _ _ q)⟩
theorem pgs_imp {X : Cx} {e : List Expr} {t t' : TGs} (h : PGs X e t) (f : ∀ v σ H Q, t' v σ H Q → t v σ H Q) : PGs X e t' := ⟨fun pins s σ H v u Q I r q => h.run pins s σ H v u Q I r (f _ _ _ _ q)⟩
theorem PsG.shift {K : PySem.W.Frag} {φ φ' : List Addr} {H H' : Hp} {Q : L2.St → Hp → Prop} (f : Fu K φ φ' H H') : ∀ {r : Option (Dn × Sto)}, PsG K φ H Q r → PsG K φ' H' Q r
  | some (Δ, s'), h => fun ψ b G g so q => h ψ b G (f.trans g) so q
  | none, h => h
def gN (i : Nat) : DGf := fun d Δ s => some (Δ.set i (some d), s)
def gsNil : List D → Dn → Sto → Option (Dn × Sto) := fun ds Δ s => match ds with
  | [] => some (Δ, s)
  | _ => none
def gsCons (g : DGf) (r : List D → Dn → Sto → Option (Dn × Sto)) : List D → Dn → Sto → Option (Dn × Sto) := fun ds Δ s => match ds with
  | d :: ds => match g d Δ s with
    | some (Δ1, s1) => r ds Δ1 s1
    | none => none
  | _ => none
def gTp (n : Nat) (g : List D → Dn → Sto → Option (Dn × Sto)) : DGf := fun d Δ s => match d with
  | .tup xs => if xs.length = n then g xs Δ s else none
  | _ => none
section
variable {X : Cx} {W : WX}
theorem dg_name {i : Nat} {x : Str} {pos : Pos} (hN : X.N.Nodup) (hi : X.N[i]? = some x := by rfl) (hx : Loc X.env.scope x := by first | exact Or.inl rfl | exact Or.inr rfl) (hf : X.fn x = true ∨ X.env.scope.names.lookup x = some .local := by first | exact .inl rfl | exact .inr rfl) : DGt X (.Name x pos) (gN i) :=
  pg_imp (pg_name hN hi hx hf) fun v σ H Q ⟨d, Δ, φ, s, rd, hσ, hs, h⟩ => h φ _ H (Fu.refl _ _) hs (hσ.set rd i)
theorem dgs_nil : DGs X [] gsNil := pgs_imp pgs_nil fun v σ H Q ⟨d, Δ, φ, s, rd, hσ, hs, h⟩ => by
  cases rd with
  | nil => exact ⟨rfl, h φ _ H (Fu.refl _ _) hs hσ⟩
  | cons _ _ => exact h.elim
theorem dgs_cons {e : Expr} {es : List Expr} {g : DGf} {r : List D → Dn → Sto → Option (Dn × Sto)} (h1 : DGt X e g) (h2 : DGs X es r) (hs : (assignEach (e :: es) X.env).map (·.2) = assign e X.env :: (assignEach es X.env).map (·.2) := by rfl) : DGs X (e :: es) (gsCons g r) := pgs_imp (pgs_cons h1 h2 hs) fun v σ H Q ⟨d, Δ, φ, s, rd, hσ, hs, h⟩ => by
  cases rd with
  | nil => exact h.elim
  | cons q rq =>
    rename_i v vs d ds
    refine ⟨_, _, rfl, _, Δ, φ, s, q, hσ, hs, ?_⟩
    simp only [gsCons] at h
    split at h
    · rename_i Δ1 s1 e
      rw [e]
      exact fun ψ σ' G f so hg => ⟨_, Δ1, ψ, s1, rq.fu f, hg, so, h.shift f⟩
    · exact h.elim
theorem dg_tup {es : List Expr} {k : Nat} {g : List D → Dn → Sto → Option (Dn × Sto)} {n : Nat} (hc : X.calm = true) (h : DGs X es g) (hn : (assignEach es X.env).length = n := by rfl) (hst : (assignEach es X.env).findIdx? (·.1) = none := by rfl) {pos : Pos} :
    DGt X (.Tuple es k pos) (gTp n g) := pg_imp (pg_tup hc h hn hst) fun v σ H Q ⟨d, Δ, φ, s, rd, hσ, hs, h⟩ => by
  unfold gTp at h
  split at h
  · rename_i xs
    obtain ⟨a, vs, rfl, hq, r⟩ := rd.tupI
    split at h
    · rename_i hn
      exact ⟨_, _, rfl, hq, by rw [r.length]; exact hn, _, Δ, φ, s, r, hσ, hs, h⟩
    · exact h.elim
  · exact h.elim
/-- o[i] = ., a list -/
def fSet : D → D → D → Sto → Option Sto := fun o i d s => match o, i with
  | .obj n, .int k => match lstAt s n with
    | some xs => match ixN xs.length k with
      | some j => some (s.set n (.lst (xs.set j d)))
      | none => none
    | none => none
  | _, _ => none
def gSb (f : D → D → D → Sto → Option Sto) (do_ di : DX) : DGf := fun d Δ s => match do_ Δ s with
  | some (.ok o, s1) => match di Δ s1 with
    | some (.ok i, s2) => match f o i d s2 with
      | some s3 => some (Δ, s3)
      | none => none
    | _ => none
  | _ => none
theorem upE_at {K : PySem.W.Frag} {de : DX} {σ : L2.St} {Δ : Dn} {φ : List Addr} {H : Hp} {s s1 : Sto} {d : D} {Q : VK} (hσ : Sg K φ H σ Δ) (hs : So K φ H s) (e : de Δ s = some (.ok d, s1)) (q : ∀ φ1 v H1, Fu K φ φ1 H H1 → Sg K φ1 H1 σ Δ → So K φ1 H1 s1 → Dt K φ1 H1 v d → Q v H1) : upE K W de σ H Q :=
  ⟨Δ, φ, s, hσ, hs, by rw [e]; exact fun φ1 v H1 f so r => q φ1 v H1 f (hσ.fu f) so r⟩
theorem dg_sub {o i : Expr} {eo ei : DX} {pos : Pos} (ho : DE X W o eo) (hi : DE X W i ei)
    (ha : ∀ v, assign (.Subscript o i pos) X.env v = (do let ov ← holding [v] (eval o X.env); let iv ← holding [v, ov] (eval i X.env); standAt pos; holding [v, ov, iv] (setItem ov iv v); release [v, ov, iv] []) := by intro _; rfl) : DGt X (.Subscript o i pos) (gSb fSet eo ei) := pg_imp (pg_sub ho hi set_list ha) fun v σ H Q ⟨d, Δ, φ, s, rd, hσ, hs, h⟩ => by
  unfold gSb at h
  split at h
  · rename_i od s1 e1
    refine upE_at hσ hs e1 fun φ1 vo H1 f1 hσ1 hs1 ro => ?_
    split at h
    · rename_i idd s2 e2
      refine upE_at hσ1 hs1 e2 fun φ2 vi H2 f2 hσ2 hs2 ri => ?_
      have ro2 := ro.fu f2
      have rd2 := (rd.fu f1).fu f2
      split at h
      · rename_i s3 e3
        unfold fSet at e3
        split at e3
        · cases ro2
          cases ri
          rename_i a ha
          split at e3
          · rename_i xs e4
            split at e3
            · rename_i j e5
              cases e3
              obtain ⟨vs, k, r⟩ := hs2.lst (lstAt_eq e4) ha
              refine ⟨a, vs, _, j, rfl, rfl, k, by rw [r.length]; exact e5, ?_⟩
              have fu2 : Fu X.K φ2 φ2 H2 (upd H2 a (.lst (vs.set j v))) := fu_set hs2 ha
              exact h φ2 _ _ ((f1.trans f2).trans fu2) (hs2.set ha ⟨_, upd_same, (r.set rd2 j).fu fu2⟩) (hσ2.fu fu2)
            · cases e3
          · cases e3
        · cases e3
      · exact h.elim
    · exact h.elim
  · exact h.elim
/-! ### the statements -/
def dAsg (de : DX) (g : DGf) : DS := fun Δ => sbind (de Δ) Δ fun d s => match g d Δ s with
  | some (Δ', s') => some (.nx Δ', s')
  | none => none
theorem ds_asg {tg e : Expr} {de : DX} {g : DGf} {pos : Pos} (he : DE X W e de) (hg : DGt X tg g) (hs : swapsWithSole [tg] e pos.line X.env = pure false := by rfl) (hw : swappedStores [tg] e X.env = pure none := by rfl) (h1 : (assignEach [tg] X.env).map (·.2) = [assign tg X.env] := by rfl) : DSt X W (.Assign [tg] e pos) (dAsg de g) :=
  ps_imp (ps_asg he hg hs hw h1) fun D σ H ⟨Δ, φ, s, hσ, hs, h⟩ => sbE hσ hs h fun φ1 v H1 d s1 f1 hσ1 hs1 rd h1 => by
    refine ⟨d, Δ, φ1, s1, rd, hσ1, hs1, ?_⟩
    split at h1
    · rename_i Δ' s' e
      rw [e]
      exact h1
    · exact h1.elim
theorem ds_set {i : Nat} {x : Str} {e : Expr} {de : DX} {pos pos' : Pos} (hN : X.N.Nodup) (he : DE X W e de) (hi : X.N[i]? = some x := by rfl) (hx : Loc X.env.scope x := by first | exact Or.inl rfl | exact Or.inr rfl) (hs : swapsWith e (some (.Name x pos')) pos.line X.env = pure false := by rfl)
    (hf : X.fn x = true ∨ X.env.scope.names.lookup x = some .local := by first | exact .inl rfl | exact .inr rfl) : DSt X W (.Assign [.Name x pos'] e pos) (dAsg de (gN i)) :=
  ps_imp (ps_set hN hi hx he hs hf) fun D σ H ⟨Δ, φ, s, hσ, hs, h⟩ => sbE hσ hs h fun φ1 v H1 d s1 f1 hσ1 hs1 rd h1 => h1 φ1 _ H1 (Fu.refl _ _) hs1 (hσ1.set rd i)
def dDrop (de : DX) : DS := fun Δ => sbind (de Δ) Δ fun _ s => some (.nx Δ, s)
theorem ds_expr {e : Expr} {de : DX} {pos : Pos} (he : DE X W e de) (hs : swapsWith e none pos.line X.env = pure false := by rfl) : DSt X W (.Expr e pos) (dDrop de) :=
  ps_imp (ps_expr he hs) fun D σ H ⟨Δ, φ, s, hσ, hs, h⟩ => sbE hσ hs h fun φ1 v H1 d s1 f1 hσ1 hs1 rd h1 => h1 φ1 _ H1 (Fu.refl _ _) hs1 hσ1
def dRet (de : DX) : DS := fun Δ => sbind (de Δ) Δ fun d s => some (.rt d, s)
theorem ds_ret {e : Expr} {de : DX} {pos : Pos} (he : DE X W e de) : DSt X W (.Return (some e) pos) (dRet de) :=
  ps_imp (ps_ret he) fun D σ H ⟨Δ, φ, s, hσ, hs, h⟩ => sbE hσ hs h fun φ1 v H1 d s1 f1 hσ1 hs1 rd h1 => h1 φ1 _ H1 (Fu.refl _ _) hs1 rd
def dRetN : DS := fun _ s => some (.rt .non, s)
theorem ds_retN {pos : Pos} : DSt X W (.Return none pos) dRetN := ps_imp ps_retN fun D σ H ⟨Δ, φ, s, hσ, hs, h⟩ => h φ _ H (Fu.refl _ _) hs .non
def dNx : DS := fun Δ s => some (.nx Δ, s)
def dBk : DS := fun Δ s => some (.bk Δ, s)
def dCt : DS := fun Δ s => some (.ct Δ, s)
theorem ds_pass {pos : Pos} : DSt X W (.Pass pos) dNx := ps_imp ps_pass fun D σ H ⟨Δ, φ, s, hσ, hs, h⟩ => h φ _ H (Fu.refl _ _) hs hσ
theorem ds_break {pos : Pos} : DSt X W (.Break pos) dBk := ps_imp ps_break fun D σ H ⟨Δ, φ, s, hσ, hs, h⟩ => h φ _ H (Fu.refl _ _) hs hσ
theorem ds_continue {pos : Pos} : DSt X W (.Continue pos) dCt := ps_imp ps_continue fun D σ H ⟨Δ, φ, s, hσ, hs, h⟩ => h φ _ H (Fu.refl _ _) hs hσ
/-- what is never reached -/
def dStop : DS := fun _ _ => none
theorem ds_never {st : Stmt} : DSt X W st dStop := ps_imp ps_never fun D σ H ⟨Δ, φ, s, hσ, hs, h⟩ => h.elim
theorem dss_never {st : List Stmt} : DSs X W st dStop := pss_imp pss_never fun D σ H ⟨Δ, φ, s, hσ, hs, h⟩ => h.elim
def dSeq (a b : DS) : DS := fun Δ s => match a Δ s with
  | some (.nx Δ', s') => b Δ' s'
  | r => r
theorem seq_read {K : PySem.W.Frag} {D : Ends} {a b : DS} {Δ : Dn} {φ : List Addr} {H : Hp} {s : Sto} (h : PsS K W D φ H (dSeq a b Δ s)) : PsS K W { D with nx := upS K W b D } φ H (a Δ s) := by
  unfold dSeq at h
  split at h
  · rename_i Δ' s' e
    rw [e]
    exact fun ψ σ' G f so hg => ⟨Δ', ψ, s', hg, so, h.shift f⟩
  · rename_i r
    cases e : a Δ s with
    | none => rw [e] at h; exact h.elim
    | some p =>
      obtain ⟨q, s'⟩ := p
      rw [e] at h
      cases q with
      | nx Δ' => exact absurd e (r _ _)
      | rt d => exact h
      | bk d => exact h
      | ct d => exact h
      | ex x d => exact h
theorem dss_nil : DSs X W [] dNx := pss_imp pss_nil fun D σ H ⟨Δ, φ, s, hσ, hs, h⟩ => h φ _ H (Fu.refl _ _) hs hσ
theorem dss_cons {st : Stmt} {rest : List Stmt} {a b : DS} (h1 : DSt X W st a) (h2 : DSs X W rest b) : DSs X W (st :: rest) (dSeq a b) :=
  pss_imp (pss_cons h1 h2) fun D σ H ⟨Δ, φ, s, hσ, hs, h⟩ => ⟨Δ, φ, s, hσ, hs, seq_read h⟩
theorem dss_one {st : Stmt} {a : DS} (h1 : DSt X W st a) : DSs X W [st] a := pss_one h1
def dIfS (t : DT) (a b : DS) : DS := fun Δ => sbind (t Δ) Δ fun c s => if c = true then a Δ s else b Δ s
theorem ds_if {c : Expr} {p q : List Stmt} {t : DT} {a b : DS} {pos : Pos} (hc : DTe X W c t) (ha : DSs X W p a) (hb : DSs X W q b) : DSt X W (.If c p q pos) (dIfS t a b) :=
  ps_imp (ps_if hc ha hb) fun D σ H ⟨Δ, φ, s, hσ, hs, h⟩ => sbT hσ hs h fun φ1 c H1 s1 f1 hσ1 hs1 h1 => by
    cases c with
    | true => exact iteT ⟨Δ, φ1, s1, hσ1, hs1, h1⟩
    | false => exact iteF ⟨Δ, φ1, s1, hσ1, hs1, h1⟩
/-! ### while -/
def whRun (t : DT) (b : DS) : Nat → DS
  | 0 => fun _ _ => none
  | n + 1 => fun Δ => sbind (t Δ) Δ fun c s => if c = true then (match b Δ s with
    | some (.nx Δ', s') => whRun t b n Δ' s'
    | some (.ct Δ', s') => whRun t b n Δ' s'
    | some (.bk Δ', s') => some (.nx Δ', s')
    | r => r) else some (.nx Δ, s)
theorem ds_while (n : Nat) {c : Expr} {body : List Stmt} {t : DT} {b : DS} {pos : Pos} (hp : PassesOwn (model X.prog X.w) X.A X.env X.xe) (hc : DTe X W c t) (hb : DSs X W body b) : DSt X W (.While c body [] pos) (whRun t b n) :=
  ps_imp (ps_while hp hc hb) fun D σ H ⟨Δ, φ, s, hσ, hs, h⟩ => by
    refine ⟨fun m σ H => ∃ Δ φ s, Sg X.K φ H σ Δ ∧ So X.K φ H s ∧ PsS X.K W D φ H (whRun t b m Δ s), ⟨n, Δ, φ, s, hσ, hs, h⟩, ?_⟩
    rintro m σ H ⟨Δ, φ, s, hσ, hs, h⟩
    cases m with
    | zero => exact h.elim
    | succ m =>
      refine sbT hσ hs h fun φ1 c H1 s1 f1 hσ1 hs1 h1 => ?_
      cases c with
      | false => exact iteF (h1 φ1 _ H1 (Fu.refl _ _) hs1 hσ1)
      | true =>
        refine iteT ⟨fun σ' H' => ∃ Δ φ s, Sg X.K φ H' σ' Δ ∧ So X.K φ H' s ∧ PsS X.K W D φ H' (whRun t b m Δ s), fun σ' H' w => ⟨m, Nat.lt_succ_self m, w⟩, Δ, φ1, s1, hσ1, hs1, ?_⟩
        rw [if_pos rfl] at h1
        cases e : b Δ s1 with
        | none => rw [e] at h1; exact h1.elim
        | some p =>
          obtain ⟨q, s'⟩ := p
          rw [e] at h1
          cases q with
          | nx Δ' => exact fun ψ σ' G f so hg => ⟨Δ', ψ, s', hg, so, h1.shift f⟩
          | ct Δ' => exact fun ψ σ' G f so hg => ⟨Δ', ψ, s', hg, so, h1.shift f⟩
          | rt d => exact h1
          | bk d => exact h1
          | ex x d => exact h1
end
end DV

namespace DV
open PySem L2 PyProof.Rows
/-! ### what a loop walks -/
mutual
def D.beq : D → D → Bool
  | .non, .non => true
  | .bl a, .bl b => a == b
  | .int a, .int b => a == b
  | .str a, .str b => decide (a = b)
  | .tup xs, .tup ys => D.beqs xs ys
  | .obj a, .obj b => a == b
  | .adr a, .adr b => a == b
  | .ty a, .ty b => a == b
  | .fz xs, .fz ys => D.beqs xs ys
  | .exc c ks xs, .exc d ls ys => c == d && decide (ks = ls) && D.beqs xs ys
  | _, _ => false
def D.beqs : List D → List D → Bool
  | [], [] => true
  | x :: xs, y :: ys => D.beq x y && D.beqs xs ys
  | _, _ => false
end
mutual
theorem D.beq_eq : ∀ {x y : D}, D.beq x y = true → x = y
  | .non, .non, _ => rfl
  | .bl a, .bl b, h => by rw [eq_of_beq (show (a == b) = true from h)]
  | .int a, .int b, h => by rw [eq_of_beq (show (a == b) = true from h)]
  | .str a, .str b, h => by rw [of_decide_eq_true (show decide (a = b) = true from h)]
  | .tup xs, .tup ys, h => by rw [D.beqs_eq (show D.beqs xs ys = true from h)]
  | .obj a, .obj b, h => by rw [eq_of_beq (show (a == b) = true from h)]
  | .adr a, .adr b, h => by rw [eq_of_beq (show (a == b) = true from h)]
  | .ty a, .ty b, h => by rw [eq_of_beq (show (a == b) = true from h)]
  | .fz xs, .fz ys, h => by rw [D.beqs_eq (show D.beqs xs ys = true from h)]
  | .exc c ks xs, .exc d ls ys, h => by
    have h : (c == d && decide (ks = ls) && D.beqs xs ys) = true := h
    rw [Bool.and_eq_true, Bool.and_eq_true] at h
    rw [eq_of_beq h.1.1, of_decide_eq_true h.1.2, D.beqs_eq h.2]
theorem D.beqs_eq : ∀ {xs ys : List D}, D.beqs xs ys = true → xs = ys
  | [], [], _ => rfl
  | x :: xs, y :: ys, h => by
    have h : (D.beq x y && D.beqs xs ys) = true := h
    rw [Bool.and_eq_true] at h
    rw [D.beq_eq h.1, D.beqs_eq h.2]
end
mutual
theorem D.beq_self : ∀ x : D, D.beq x x = true
  | .non => rfl
  | .bl a => beq_self_eq_true a
  | .int a => beq_self_eq_true a
  | .str a => decide_eq_true rfl
  | .tup xs => D.beqs_self xs
  | .obj a => beq_self_eq_true a
  | .adr a => beq_self_eq_true a
  | .ty a => beq_self_eq_true a
  | .fz xs => D.beqs_self xs
  | .exc c ks xs => by
    show (c == c && decide (ks = ks) && D.beqs xs xs) = true
    rw [D.beqs_self xs]
    simp
theorem D.beqs_self : ∀ xs : List D, D.beqs xs xs = true
  | [] => rfl
  | x :: xs => by
    show (D.beq x x && D.beqs xs xs) = true
    rw [D.beq_self x, D.beqs_self xs]
    rfl
end
/-- the items; the list of the store that must stand as it is -/
structure Itd where
  its : List D
  src : Option (Nat × List D)
def Itd.still (I : Itd) (s : Sto) : Bool := match I.src with
  | none => true
  | some (n, xs) => match lstAt s n with
    | some ys => D.beqs ys xs
    | none => false
theorem Itd.still_at {I : Itd} {s : Sto} (h : I.still s = true) : ∀ n xs, I.src = some (n, xs) → lstAt s n = some xs := fun n xs e => by
  unfold Itd.still at h
  rw [e] at h
  simp only at h
  split at h
  · rename_i ys e2
    rw [e2, D.beqs_eq h]
  · cases h
/-- from now on, while it stands, J yields the items -/
def Yl (K : PySem.W.Frag) (φ : List Addr) (H : Hp) (J : It) (I : Itd) : Prop := ∀ φ' H' s', Fu K φ φ' H H' → So K φ' H' s' → (∀ n xs, I.src = some (n, xs) → lstAt s' n = some xs) →
  ∀ i, (∀ d, I.its[i]? = some d → J.go i H' ∧ ∀ x H'', J.yld i H' x H'' → Fu K φ' φ' H' H'' ∧ So K φ' H'' s' ∧ Dt K φ' H'' x d) ∧ (I.its.length ≤ i → J.stop i H')
abbrev DI := Dn → M Itd
def upI (K : PySem.W.Frag) (W : WX) (di : DI) : TI := fun σ H R => ∃ Δ φ s, Sg K φ H σ Δ ∧ So K φ H s ∧ Ps K (wAt W σ) (Yl K) φ H (fun _ J H' _ _ => R J H') (di Δ s)
def DIt (X : Cx) (W : WX) (tg e : Expr) (di : DI) : Prop := PI X tg e (upI X.K W di)
theorem pi_imp {X : Cx} {tg e : Expr} {t t' : TI} (h : PI X tg e t) (f : ∀ σ H R, t' σ H R → t σ H R) : PI X tg e t' := ⟨fun pins s σ H R I q => h.run pins s σ H R I (f _ _ _ q)⟩
section
variable {K : PySem.W.Frag} {φ : List Addr} {H : Hp} {s : Sto}
theorem yl_range (lo : Int) (n : Nat) : Yl K φ H (Itr lo n) ⟨(List.range n).map fun i => .int (lo + (i : Nat)), none⟩ := fun φ' H' s' f so _ i => by
  refine ⟨fun d e => ?_, fun h => by have h2 : n ≤ i := by simpa using h
                                     exact h2⟩
  rw [List.getElem?_map] at e
  cases q : (List.range n)[i]? with
  | none => rw [q] at e; cases e
  | some j =>
    rw [q] at e
    cases e
    obtain ⟨hl, hj⟩ := List.getElem?_eq_some_iff.mp q
    rw [List.getElem_range] at hj
    subst hj
    have hl2 : i < n := by simpa using hl
    refine ⟨hl2, fun x H'' y => ?_⟩
    obtain ⟨rfl, rfl⟩ := y
    exact ⟨Fu.refl _ _, so, .int _⟩
theorem yl_list {n : Nat} {a : Addr} {xs : List D} (ha : φ[n]? = some a) : Yl K φ H (Itl K a) ⟨xs, some (n, xs)⟩ := fun φ' H' s' f so st i => by
  obtain ⟨vs, k, r⟩ := so.lst (lstAt_eq (st n xs rfl)) (f.get ha)
  refine ⟨fun d e => ?_, fun h => ⟨vs, SqL.of k, by rw [r.length]; exact h⟩⟩
  obtain ⟨v, hv, rv⟩ := r.get e
  refine ⟨⟨vs, v, SqL.of k, hv⟩, fun x H'' y => ?_⟩
  obtain ⟨rfl, y⟩ := y
  have e2 := y vs (SqL.of k)
  rw [hv] at e2
  cases e2
  exact ⟨Fu.refl _ _, so, rv⟩
theorem yl_tup {a : Addr} {vs : List V} {xs : List D} (h : SqT K H a vs) (r : Dts K φ H vs xs) : Yl K φ H (Itt K a) ⟨xs, none⟩ := fun φ' H' s' f so st i => by
  have k := f.go _ _ h
  refine ⟨fun d e => ?_, fun h => ⟨vs, k, by rw [r.length]; exact h⟩⟩
  obtain ⟨v, hv, rv⟩ := r.get e
  refine ⟨⟨vs, v, k, hv⟩, fun x H'' y => ?_⟩
  obtain ⟨rfl, y⟩ := y
  have e2 := y vs k
  rw [hv] at e2
  cases e2
  exact ⟨Fu.refl _ _, so, rv.fu f⟩
def enumD : Nat → List D → List D
  | _, [] => []
  | k, d :: r => .tup [.int (k : Nat), d] :: enumD (k + 1) r
theorem enumD_len : ∀ (xs : List D) (k : Nat), (enumD k xs).length = xs.length
  | [], _ => rfl
  | _ :: r, k => by simp only [enumD, List.length_cons]; rw [enumD_len r (k + 1)]
theorem enumD_get : ∀ (xs : List D) (k i : Nat) (d : D), (enumD k xs)[i]? = some d → ∃ x, xs[i]? = some x ∧ d = .tup [.int ((k + i : Nat) : Int), x]
  | [], _, _, _, e => by cases e
  | x :: r, k, 0, d, e => by cases e; exact ⟨x, rfl, rfl⟩
  | x :: r, k, i + 1, d, e => by
    obtain ⟨y, h1, h2⟩ := enumD_get r (k + 1) i d e
    exact ⟨y, h1, by rw [h2]; congr 3; omega⟩
theorem yl_enum {n : Nat} {a : Addr} {xs : List D} (ha : φ[n]? = some a) : Yl K φ H (Ite K a) ⟨enumD 0 xs, some (n, xs)⟩ := fun φ' H' s' f so st i => by
  obtain ⟨vs, k, r⟩ := so.lst (lstAt_eq (st n xs rfl)) (f.get ha)
  refine ⟨fun d e => ?_, fun h => ⟨vs, SqL.of k, by rw [r.length]; rw [enumD_len] at h; exact h⟩⟩
  obtain ⟨x, hx, rfl⟩ := enumD_get xs 0 i d e
  obtain ⟨v, hv, rv⟩ := r.get hx
  refine ⟨⟨vs, v, SqL.of k, hv⟩, fun w H'' y => ?_⟩
  obtain ⟨T, z, rfl, hT, rfl, y⟩ := y
  have e2 := y vs (SqL.of k)
  rw [hv] at e2
  cases e2
  have fT : Fu K φ' φ' H' (upd H' T (.tup [.int (i : Nat), v])) := fu_new hT
  exact ⟨fT, so.new hT, .tup (SqT.of upd_same) (.cons (by rw [Nat.zero_add]; exact .int _) (.cons (rv.fu fT) .nil))⟩
end
/-- a text's signs -/
theorem yl_str {K : PySem.W.Frag} {φ : List Addr} {H : Hp} (z : Str) : Yl K φ H (Its z) ⟨z.cps.toList.map fun c => .str ⟨#[c]⟩, none⟩ := fun φ' H' s' f so _ i => by
  refine ⟨fun d e => ?_, fun h => by have h2 : z.cps.size ≤ i := by simpa using h
                                     exact h2⟩
  rw [List.getElem?_map] at e
  cases q : z.cps.toList[i]? with
  | none => rw [q] at e; cases e
  | some c =>
    rw [q] at e
    cases e
    have hl := (List.getElem?_eq_some_iff.mp q).1
    have hl2 : i < z.cps.size := by simpa using hl
    refine ⟨hl2, fun x H'' y => ?_⟩
    obtain ⟨rfl, c', hc, rfl⟩ := y
    rw [Array.getElem?_toList] at q
    rw [q] at hc
    cases hc
    exact ⟨Fu.refl _ _, so, .str _⟩
section
variable {X : Cx} {W : WX}
def iSeqL (da : DX) : DI := fun Δ => mbind (da Δ) fun x s => match x with
  | .obj n => match lstAt s n with
    | some xs => some (.ok ⟨xs, some (n, xs)⟩, s)
    | none => none
  | _ => none
theorem di_list {tg e : Expr} {da : DX} (h : DE X W e da) : DIt X W tg e (iSeqL da) := pi_imp (pi_list h) fun σ H R ⟨Δ, φ, s, hσ, hs, h⟩ => upE_bind hσ hs h fun φ1 v H1 x s1 f1 hσ1 hs1 rx h1 => by
  split at h1
  · rename_i n
    cases rx
    rename_i a ha
    split at h1
    · rename_i xs e
      obtain ⟨vs, k, r⟩ := hs1.lst (lstAt_eq e) ha
      exact ⟨a, rfl, ⟨vs, SqL.of k⟩, h1.ok hs1 (yl_list ha)⟩
    · exact h1.elim
  · exact h1.elim
def iSeqT (da : DX) : DI := fun Δ => mbind (da Δ) fun x s => match x with
  | .tup xs => some (.ok ⟨xs, none⟩, s)
  | _ => none
theorem di_tup {tg e : Expr} {da : DX} (h : DE X W e da) : DIt X W tg e (iSeqT da) := pi_imp (pi_tup h) fun σ H R ⟨Δ, φ, s, hσ, hs, h⟩ => upE_bind hσ hs h fun φ1 v H1 x s1 f1 hσ1 hs1 rx h1 => by
  split at h1
  · obtain ⟨a, vs, rfl, hq, r⟩ := rx.tupI
    exact ⟨a, rfl, ⟨vs, hq⟩, h1.ok hs1 (yl_tup hq r)⟩
  · exact h1.elim
def iSeqS (da : DX) : DI := fun Δ => mbind (da Δ) fun x s => match x with
  | .str z => some (.ok ⟨z.cps.toList.map fun c => .str ⟨#[c]⟩, none⟩, s)
  | _ => none
theorem di_str {tg e : Expr} {da : DX} (h : DE X W e da) : DIt X W tg e (iSeqS da) := pi_imp (pi_str h) fun σ H R ⟨Δ, φ, s, hσ, hs, h⟩ => upE_bind hσ hs h fun φ1 v H1 x s1 f1 hσ1 hs1 rx h1 => by
  split at h1
  · rename_i z
    cases rx
    exact ⟨z, rfl, h1.ok hs1 (yl_str z)⟩
  · exact h1.elim
def rngOk (i : Int) : Bool := decide (-(2 ^ 62) ≤ i) && decide (i < 2 ^ 62)
def rngI (lo : Int) (n : Nat) : Itd := ⟨(List.range n).map fun i => .int (lo + (i : Nat)), none⟩
def iRange1 (da : DA) : DI := fun Δ => mbind (da Δ) fun xs s => match xs with
  | [.int j] => if rngOk j = true then some (.ok (rngI 0 j.toNat), s) else none
  | _ => none
def iRange2 (da : DA) : DI := fun Δ => mbind (da Δ) fun xs s => match xs with
  | [.int i, .int j] => if (rngOk i && rngOk j) = true then some (.ok (rngI i (j - i).toNat), s) else none
  | _ => none
theorem rngOk_iff {i : Int} (h : rngOk i = true) : -(2 ^ 62) ≤ i ∧ i < 2 ^ 62 := by
  unfold rngOk at h
  simpa only [Bool.and_eq_true, decide_eq_true_eq] using h
theorem di_range1 {tg a : Expr} {da : DA} {p pos : Pos} (hg : Gl X "range") (hm : X.mg "range" = none) (ha : DAs X W [a] da) (hs : starEach [a] X.env = [(false, eval a X.env)] := by rfl) : DIt X W tg (.Call (.Name "range" p) [a] [] pos) (iRange1 da) :=
  pi_imp (pi_range1 hg hm ha hs) fun σ H R ⟨Δ, φ, s, hσ, hs, h⟩ => upA_bind hσ hs h fun φ1 v H1 x s1 f1 hσ1 hs1 rx h1 => by
    split at h1
    · rename_i j
      obtain ⟨u, rfl, r⟩ := dts1 rx
      cases r
      split at h1
      · rename_i hz
        obtain ⟨z1, z2⟩ := rngOk_iff hz
        exact ⟨j, rfl, z1, z2, h1.ok hs1 (yl_range 0 _)⟩
      · exact h1.elim
    · exact h1.elim
theorem di_range2 {tg a b : Expr} {da : DA} {p pos : Pos} (hg : Gl X "range") (hm : X.mg "range" = none) (ha : DAs X W [a, b] da) (hs : starEach [a, b] X.env = [(false, eval a X.env), (false, eval b X.env)] := by rfl)
    (hs2 : starEach [b] X.env = [(false, eval b X.env)] := by rfl) : DIt X W tg (.Call (.Name "range" p) [a, b] [] pos) (iRange2 da) :=
  pi_imp (pi_range2 hg hm ha hs hs2) fun σ H R ⟨Δ, φ, s, hσ, hs, h⟩ => upA_bind hσ hs h fun φ1 v H1 x s1 f1 hσ1 hs1 rx h1 => by
    split at h1
    · rename_i i j
      obtain ⟨u, w, rfl, r, r'⟩ := dts2 rx
      cases r
      cases r'
      split at h1
      · rename_i hz
        rw [Bool.and_eq_true] at hz
        obtain ⟨z1, z2⟩ := rngOk_iff hz.1
        obtain ⟨z3, z4⟩ := rngOk_iff hz.2
        exact ⟨i, j, rfl, ⟨z1, z2, z3, z4⟩, h1.ok hs1 (yl_range i _)⟩
      · exact h1.elim
    · exact h1.elim
/-- enumerate(list): the list stands -/
def iEnum (da : DA) : DI := fun Δ => mbind (da Δ) fun xs s => match xs with
  | [.obj n] => match lstAt s n with
    | some ys => some (.ok ⟨enumD 0 ys, some (n, ys)⟩, s)
    | none => none
  | _ => none
theorem di_enum {elts : List Expr} {kk : Nat} {tpos : Pos} {e : Expr} {da : DA} {p pos : Pos} (hg : Gl X "enumerate") (hm : X.mg "enumerate" = none) (ha : DAs X W [e] da) (hs : starEach [e] X.env = [(false, eval e X.env)] := by rfl) : DIt X W (.Tuple elts kk tpos) (.Call (.Name "enumerate" p) [e] [] pos) (iEnum da) :=
  pi_imp (pi_enum hg hm ha hs) fun σ H R ⟨Δ, φ, s, hσ, hs, h⟩ => upA_bind hσ hs h fun φ1 v H1 x s1 f1 hσ1 hs1 rx h1 => by
    split at h1
    · rename_i n
      obtain ⟨u, rfl, r⟩ := dts1 rx
      cases r
      rename_i a ha
      split at h1
      · rename_i xs e
        obtain ⟨vs, k, r⟩ := hs1.lst (lstAt_eq e) ha
        exact ⟨a, vs, rfl, SqL.of k, h1.ok hs1 (yl_enum ha)⟩
      · exact h1.elim
    · exact h1.elim
/-! ### for -/
def forRun (I : Itd) (g : DGf) (b : DS) : List D → DS
  | [], Δ, s => if I.still s = true then some (.nx Δ, s) else none
  | d :: r, Δ, s => if I.still s = true then (match g d Δ s with
    | some (Δ1, s1) => match b Δ1 s1 with
      | some (.nx Δ2, s2) => forRun I g b r Δ2 s2
      | some (.ct Δ2, s2) => forRun I g b r Δ2 s2
      | some (.bk Δ2, s2) => some (.nx Δ2, s2)
      | q => q
    | none => none) else none
def dFor (di : DI) (g : DGf) (b : DS) : DS := fun Δ => sbind (di Δ) Δ fun I s => forRun I g b I.its Δ s
theorem ds_for {tg iter : Expr} {body : List Stmt} {di : DI} {g : DGf} {b : DS} {pos : Pos} (hp : PassesOwn (model X.prog X.w) X.A X.env X.xe) (hc : X.calm = true) (hi : DIt X W tg iter di) (hg : DGt X tg g) (hb : DSs X W body b)
    (hs : ∀ x, foldedSetIterable iter X.env x = pure x := by intro _; rfl) : DSt X W (.For tg iter body [] pos) (dFor di g b) :=
  ps_imp (ps_for hp hc hi hg hb hs) fun D σ H ⟨Δ, φ, s, hσ, hs, h⟩ => by
    refine ⟨Δ, φ, s, hσ, hs, Ps.mono (fun φ1 J H1 I s1 z => ?_) (sb (R := Yl X.K) hσ h)⟩
    obtain ⟨f1, so1, yl, h1⟩ := z
    have hσ1 := hσ.fu f1
    refine ⟨fun i m σ' H' => m = I.its.length - i ∧ i ≤ I.its.length ∧ ∃ Δ' ψ s', Fu X.K φ1 ψ H1 H' ∧ So X.K ψ H' s' ∧ Sg X.K ψ H' σ' Δ' ∧ PsS X.K W D ψ H' (forRun I g b (I.its.drop i) Δ' s'),
      ⟨_, rfl, Nat.zero_le _, Δ, φ1, s1, Fu.refl _ _, so1, hσ1, h1⟩, ?_⟩
    rintro i m σ' H' ⟨rfl, hi, Δ', ψ, s', f, so, hg', h'⟩
    by_cases hl : i < I.its.length
    · rw [List.drop_eq_getElem_cons hl] at h'
      unfold forRun at h'
      by_cases st : I.still s' = true
      · rw [if_pos st] at h'
        obtain ⟨y1, _⟩ := yl ψ H' s' f so (Itd.still_at st) i
        obtain ⟨go, yld⟩ := y1 _ (List.getElem?_eq_getElem hl)
        refine .inr ⟨go, fun σ2 H2 => i + 1 ≤ I.its.length ∧ ∃ Δ' ψ s', Fu X.K φ1 ψ H1 H2 ∧ So X.K ψ H2 s' ∧ Sg X.K ψ H2 σ2 Δ' ∧ PsS X.K W D ψ H2 (forRun I g b (I.its.drop (i + 1)) Δ' s'), fun σ2 H2 z => ⟨_, by omega, rfl, z.1, z.2⟩, fun x H2 y => ?_⟩
        obtain ⟨f2, so2, rx⟩ := yld x H2 y
        refine ⟨_, Δ', ψ, s', rx, hg'.fu f2, so2, ?_⟩
        cases e : g I.its[i] Δ' s' with
        | none => rw [e] at h'; exact h'.elim
        | some p =>
          obtain ⟨Δ1, s1'⟩ := p
          rw [e] at h'
          refine fun ψ3 σ3 H3 f3 so3 hg3 => ⟨Δ1, ψ3, s1', hg3, so3, ?_⟩
          have h3 := h'.shift (f2.trans f3)
          have ff := (f.trans f2).trans f3
          cases e2 : b Δ1 s1' with
          | none => simp only [e2] at h3; exact h3.elim
          | some p =>
            obtain ⟨q, s2⟩ := p
            simp only [e2] at h3
            cases q with
            | nx Δ2 => exact fun ψ4 σ4 H4 f4 so4 hg4 => ⟨hl, Δ2, ψ4, s2, ff.trans f4, so4, hg4, h3.shift f4⟩
            | ct Δ2 => exact fun ψ4 σ4 H4 f4 so4 hg4 => ⟨hl, Δ2, ψ4, s2, ff.trans f4, so4, hg4, h3.shift f4⟩
            | bk Δ2 => exact h3
            | rt d => exact h3
            | ex x d => exact h3
      · rw [if_neg st] at h'
        exact h'.elim
    · have e : i = I.its.length := by omega
      subst e
      rw [List.drop_length] at h'
      unfold forRun at h'
      by_cases st : I.still s' = true
      · rw [if_pos st] at h'
        obtain ⟨_, y2⟩ := yl ψ H' s' f so (Itd.still_at st) I.its.length
        exact .inl ⟨y2 (Nat.le_refl _), h' ψ σ' H' (Fu.refl _ _) so hg'⟩
      · rw [if_neg st] at h'
        exact h'.elim
/-! ### list comprehensions -/
def wipeD (Δ : Dn) : List Nat → Dn
  | [] => Δ
  | v :: vs => (wipeD Δ vs).set v none
theorem wipe_sg {K : PySem.W.Frag} {φ : List Addr} {H : Hp} {σ : L2.St} {Δ : Dn} (h : Sg K φ H σ Δ) : ∀ vs : List Nat, Sg K φ H (wipe σ vs) (wipeD Δ vs)
  | [] => h
  | v :: vs => (wipe_sg h vs).forget v none
/-- the turns of a comprehension: the new list stands at n -/
def lcRun (I : Itd) (g : DGf) (tt : DT) (de : DX) (n : Nat) : List D → Dn → Sto → Option Sto
  | [], _, s => if I.still s = true then some s else none
  | d :: r, Δ, s => if I.still s = true then (match g d Δ s with
    | some (Δ1, s1) => match tt Δ1 s1 with
      | some (.ok true, s2) => match de Δ1 s2 with
        | some (.ok y, s3) => match lstAt s3 n with
          | some acc => if acc.length < sizeLine then lcRun I g tt de n r Δ (s3.set n (.lst (acc ++ [y]))) else none
          | none => none
        | _ => none
      | some (.ok false, s2) => lcRun I g tt de n r Δ s2
      | _ => none
    | none => none) else none
def dYes : DT := fun _ => mret true
def dLc (vs : List Nat) (di : DI) (g : DGf) (tt : DT) (de : DX) : DX := fun Δ => mbind (di Δ) fun I s => match lcRun I g tt de s.length I.its (wipeD Δ vs) (s ++ [.lst []]) with
  | some s' => some (.ok (.obj s.length), s')
  | none => none
abbrev W0 : WX := fun _ _ _ _ => False
def DTs (X : Cx) (W : WX) (ifs : List Expr) (dt : DT) : Prop := PTs X ifs (upT X.K W dt)
theorem dts_nil : DTs X W [] dYes := ⟨fun pins s σ H Q I ⟨Δ, φ, st, hσ, hs, h⟩ => pts_nil.run pins s σ H Q I (h.ok hs rfl)⟩
theorem dts_one {c : Expr} {dt : DT} (h : DTe X W c dt) : DTs X W [c] dt := pts_one h
end
end DV

namespace DV
open PySem L2 PyProof.Rows
theorem wipe_get (σ : L2.St) (j : Nat) : ∀ vs : List Nat, (wipe σ vs)[j]? = if j ∈ vs then (σ[j]?).map (fun _ => none) else σ[j]?
  | [] => by simp [wipe]
  | v :: vs => by
    have ih := wipe_get σ j vs
    unfold wipe
    by_cases e : v = j
    · subst e
      by_cases hl : v < σ.length
      · rw [List.getElem?_set_self (by rw [wipe_length]; exact hl)]
        simp [hl]
      · rw [List.getElem?_eq_none (by rw [List.length_set, wipe_length]; omega)]
        simp [List.getElem?_eq_none (Nat.le_of_not_lt hl)]
    · rw [List.getElem?_set_ne e, ih]
      by_cases h : j ∈ vs
      · simp [h]
      · have : j ∉ v :: vs := by simp only [List.mem_cons, not_or]; exact ⟨fun z => e z.symm, h⟩
        simp [h, this]
theorem wipe_set {σ : L2.St} {vs : List Nat} {i : Nat} {o : Option V} (h : i ∈ vs) : wipe (σ.set i o) vs = wipe σ vs := by
  apply List.ext_getElem?
  intro j
  rw [wipe_get, wipe_get]
  by_cases hj : j ∈ vs
  · rw [if_pos hj, if_pos hj]
    by_cases e : i = j
    · subst e
      by_cases hl : i < σ.length
      · rw [List.getElem?_set_self hl, List.getElem?_eq_getElem hl]; rfl
      · rw [List.getElem?_eq_none (by rw [List.length_set]; omega), List.getElem?_eq_none (by omega)]
    · rw [List.getElem?_set_ne e]
  · rw [if_neg hj, if_neg hj, List.getElem?_set_ne (fun e => hj (by rw [← e]; exact h))]
theorem wipe_wipe {σ : L2.St} {vs : List Nat} : wipe (wipe σ vs) vs = wipe σ vs := by
  apply List.ext_getElem?
  intro j
  rw [wipe_get, wipe_get]
  by_cases hj : j ∈ vs
  · rw [if_pos hj, if_pos hj]; cases σ[j]? <;> rfl
  · rw [if_neg hj, if_neg hj]
/-- a target of a comprehension: names of its own -/
def NgOk (K : PySem.W.Frag) (vs : List Nat) (t : TG) (g : DGf) : Prop := ∀ v d σ Δ φ H s Δ' s' Q, Dt K φ H v d → Sg K φ H σ Δ → g d Δ s = some (Δ', s') → (s' = s → ∀ σ', wipe σ' vs = wipe σ vs → Sg K φ H σ' Δ' → Q σ' H) → t v σ H Q
def NgsOk (K : PySem.W.Frag) (vs : List Nat) (t : TGs) (g : List D → Dn → Sto → Option (Dn × Sto)) : Prop := ∀ v d σ Δ φ H s Δ' s' Q, Dts K φ H v d → Sg K φ H σ Δ → g d Δ s = some (Δ', s') → (s' = s → ∀ σ', wipe σ' vs = wipe σ vs → Sg K φ H σ' Δ' → Q σ' H) → t v σ H Q
theorem ng_name {K : PySem.W.Frag} {vs : List Nat} {i : Nat} (h : i ∈ vs) : NgOk K vs (gName i) (gN i) := fun v d σ Δ φ H s Δ' s' Q rd hσ e q => by
  cases e
  exact q rfl _ (wipe_set h) (hσ.set rd i)
theorem ngs_nil {K : PySem.W.Frag} {vs : List Nat} : NgsOk K vs gNil gsNil := fun v d σ Δ φ H s Δ' s' Q rd hσ e q => by
  unfold gsNil at e
  split at e
  · cases e
    cases rd
    exact ⟨rfl, q rfl σ rfl hσ⟩
  · cases e
theorem ngs_cons {K : PySem.W.Frag} {vs : List Nat} {t : TG} {u : TGs} {g : DGf} {r : List D → Dn → Sto → Option (Dn × Sto)} (h1 : NgOk K vs t g) (h2 : NgsOk K vs u r) : NgsOk K vs (gCons t u) (gsCons g r) := fun v d σ Δ φ H s Δ' s' Q rd hσ e q => by
  unfold gsCons at e
  split at e
  · cases rd
    rename_i q1 q2
    split at e
    · rename_i Δ1 s1 e1
      refine ⟨_, _, rfl, h1 _ _ σ Δ φ H s Δ1 s1 _ q1 hσ e1 fun es σ1 w1 hσ1 => ?_⟩
      subst es
      exact h2 _ _ σ1 Δ1 φ H _ Δ' s' _ q2 hσ1 e fun es2 σ2 w2 hσ2 => q es2 σ2 (w2.trans w1) hσ2
    · cases e
  · cases e
theorem ng_tup {K : PySem.W.Frag} {vs : List Nat} {n : Nat} {u : TGs} {r : List D → Dn → Sto → Option (Dn × Sto)} (h : NgsOk K vs u r) : NgOk K vs (gTup K n u) (gTp n r) := fun v d σ Δ φ H s Δ' s' Q rd hσ e q => by
  unfold gTp at e
  split at e
  · obtain ⟨a, ws, rfl, hq, rr⟩ := rd.tupI
    split at e
    · rename_i hn
      exact ⟨a, ws, rfl, hq, by rw [rr.length]; exact hn, h _ _ σ Δ φ H s Δ' s' _ rr hσ e q⟩
    · cases e
  · cases e
section
variable {X : Cx} {W : WX}
theorem lc_read {K : PySem.W.Frag} {vs : List Nat} {t : TG} {g : DGf} {di : DI} {tt : DT} {de : DX} {σ : L2.St} {H : Hp} {Q : VK} (ng : NgOk K vs t g) (h : upE K W (dLc vs di g tt de) σ H Q) :
    tLc (upI K W di) t (upT K W0 tt) (upE K W0 de) vs σ H Q := by
  obtain ⟨Δ, φ, s, hσ, hs, h⟩ := h
  refine ⟨Δ, φ, s, hσ, hs, Ps.mono (fun φ1 J H1 I s1 z => ?_) (Ps.bind (R := Yl K) h)⟩
  obtain ⟨f1, so1, yl, h1⟩ := z
  have hσ1 := hσ.fu f1
  intro Dd hD
  split at h1
  case h_2 => exact h1.elim
  rename_i sf ef
  have fD : Fu K φ1 (φ1 ++ [Dd]) H1 (upd H1 Dd (.lst [])) := fu_newO hD
  have soD : So K (φ1 ++ [Dd]) (upd H1 Dd (.lst [])) (s1 ++ [.lst []]) := Dts.newO so1 hD .nil
  have gD : (φ1 ++ [Dd])[s1.length]? = some Dd := by rw [so1.len, List.getElem?_append_right (Nat.le_refl _)]; simp
  refine ⟨fun i m H' => m = I.its.length - i ∧ i ≤ I.its.length ∧ ∃ ψ s', Fu K φ1 ψ H1 H' ∧ So K ψ H' s' ∧ ψ[s1.length]? = some Dd ∧ lcRun I g tt de s1.length (I.its.drop i) (wipeD Δ vs) s' = some sf,
    ⟨_, rfl, Nat.zero_le _, _, _, fD, soD, gD, ef⟩, ?_⟩
  rintro i m H' ⟨rfl, hi, ψ, s', f, so, gd, e⟩
  by_cases hl : i < I.its.length
  · rw [List.drop_eq_getElem_cons hl] at e
    unfold lcRun at e
    by_cases st : I.still s' = true
    · rw [if_pos st] at e
      obtain ⟨y1, _⟩ := yl ψ H' s' f so (Itd.still_at st) i
      obtain ⟨go, yld⟩ := y1 _ (List.getElem?_eq_getElem hl)
      refine .inr ⟨go, fun H2 => i + 1 ≤ I.its.length ∧ ∃ ψ s', Fu K φ1 ψ H1 H2 ∧ So K ψ H2 s' ∧ ψ[s1.length]? = some Dd ∧ lcRun I g tt de s1.length (I.its.drop (i + 1)) (wipeD Δ vs) s' = some sf, fun H2 z => ⟨_, by omega, rfl, z.1, z.2⟩, fun x H2 y => ?_⟩
      obtain ⟨f2, so2, rx⟩ := yld x H2 y
      have ff := f.trans f2
      cases eg : g I.its[i] (wipeD Δ vs) s' with
      | none => rw [eg] at e; cases e
      | some p =>
        obtain ⟨Δ1, s2⟩ := p
        simp only [eg] at e
        refine ng x _ (wipe σ vs) (wipeD Δ vs) ψ H2 s' Δ1 s2 _ rx (wipe_sg (hσ1.fu ff) vs) eg fun es σ2 w2 hσ2 => ⟨w2.trans wipe_wipe, ?_⟩
        subst es
        cases et : tt Δ1 s2 with
        | none => rw [et] at e; cases e
        | some p =>
          obtain ⟨r, s3⟩ := p
          cases r with
          | error _ => simp only [et] at e; cases e
          | ok b =>
            refine ⟨Δ1, ψ, s2, hσ2, so2, ?_⟩
            rw [et]
            intro ψ3 b' H3 f3 so3 eb
            subst eb
            have ff3 := ff.trans f3
            cases b' with
            | false =>
              simp only [et] at e
              exact iteF ⟨hl, ψ3, s3, ff3, so3, f3.get (f2.get gd), e⟩
            | true =>
              simp only [et] at e
              refine iteT ?_
              cases ee : de Δ1 s3 with
              | none => rw [ee] at e; cases e
              | some p =>
                obtain ⟨r, s4⟩ := p
                cases r with
                | error _ => simp only [ee] at e; cases e
                | ok yd =>
                  refine ⟨Δ1, ψ3, s3, hσ2.fu f3, so3, ?_⟩
                  rw [ee]
                  intro ψ4 yv H4 f4 so4 ry
                  simp only [ee] at e
                  have gd4 : ψ4[s1.length]? = some Dd := f4.get (f3.get (f2.get gd))
                  split at e
                  · rename_i acc ea
                    split at e
                    · rename_i hz
                      obtain ⟨ws, k, r⟩ := so4.lst (lstAt_eq ea) gd4
                      have fs : Fu K ψ4 ψ4 H4 (upd H4 Dd (.lst (ws ++ [yv]))) := fu_set so4 gd4
                      refine ⟨ws, k, by rw [r.length]; exact hz, hl, ψ4, _, (ff3.trans f4).trans fs, so4.set (o := .lst (acc ++ [yd])) gd4 ⟨_, upd_same, (r.append (.cons ry .nil)).fu fs⟩, gd4, e⟩
                    · cases e
                  · cases e
    · rw [if_neg st] at e
      cases e
  · have e2 : i = I.its.length := by omega
    subst e2
    rw [List.drop_length] at e
    unfold lcRun at e
    by_cases st : I.still s' = true
    · rw [if_pos st] at e
      cases e
      obtain ⟨_, y2⟩ := yl ψ H' _ f so (Itd.still_at st) I.its.length
      exact .inl ⟨y2 (Nat.le_refl _), h1 ψ _ H' f so (.obj gd)⟩
    · rw [if_neg st] at e
      cases e
/-- the comprehension's context -/
abbrev Bk (X : Cx) (scope : Scope) (s : Shared) (H : Hp) (C : Addr) (cl : List (Str × Addr)) (fp : List Addr) : Cx := X.blk s H scope (compEnvC scope cl C X.env) fp
theorem de_lc {elt tg iter : Expr} {ifs : List Expr} {scope : Scope} {own : List (Str × Nat)} {pos : Pos} {di : DI} {t : TG} {g : DGf} {tt : DT} {de : DX} (hc : X.calm = true) (hN : X.N.Nodup) (hi : DIt X W tg iter di) (ok : BlkOk X.N X.env.scope scope own)
    (ng : NgOk X.K (own.map (·.2)) t g) (hg : ∀ s H C cl fp, PG (Bk X scope s H C cl fp) tg t) (ht : ∀ s H C cl fp, DTs (Bk X scope s H C cl fp) W0 ifs tt) (he : ∀ s H C cl fp, DE (Bk X scope s H C cl fp) W0 elt de)
    (hs : ∀ x, foldedSetIterable iter X.env x = pure x := by intro _; rfl) : DE X W (.ListComp elt [⟨tg, iter, ifs, 0⟩] scope pos) (dLc (own.map (·.2)) di g tt de) :=
  pe_imp (pe_lc (tt := upT X.K W0 tt) (te := upE X.K W0 de) hc hN hi ok hg ht he hs) fun σ H Q h => lc_read ng h
theorem ds_setLc {i : Nat} {y : Str} {py : Pos} {elt tg iter : Expr} {ifs : List Expr} {scope : Scope} {own : List (Str × Nat)} {pos spos : Pos} {di : DI} {t : TG} {g : DGf} {tt : DT} {de : DX} (hc : X.calm = true) (hN : X.N.Nodup) (hi : DIt X W tg iter di) (ok : BlkOk X.N X.env.scope scope own)
    (ng : NgOk X.K (own.map (·.2)) t g) (hg : ∀ s H C cl fp, PG (Bk X scope s H C cl fp) tg t) (ht : ∀ s H C cl fp, DTs (Bk X scope s H C cl fp) W0 ifs tt) (he : ∀ s H C cl fp, DE (Bk X scope s H C cl fp) W0 elt de)
    (hsw : swapsWith (.ListComp elt [⟨tg, iter, ifs, 0⟩] scope pos) (some (.Name y py)) spos.line X.env = pure true) (hy : X.N[i]? = some y := by rfl) (hyl : X.env.scope.names.lookup y = some .local := by rfl)
    (hs : ∀ x, foldedSetIterable iter X.env x = pure x := by intro _; rfl) : DSt X W (.Assign [.Name y py] (.ListComp elt [⟨tg, iter, ifs, 0⟩] scope pos) spos) (dAsg (dLc (own.map (·.2)) di g tt de) (gN i)) :=
  ps_imp (ps_setLc (tt := upT X.K W0 tt) (te := upE X.K W0 de) hc hN hy hyl hsw hi ok hg ht he hs) fun D σ H ⟨Δ, φ, s, hσ, hs, h⟩ => lc_read (W := W) ng (sbE hσ hs h fun φ1 v H1 d s1 f1 hσ1 hs1 rd h1 => h1 φ1 _ H1 (Fu.refl _ _) hs1 (hσ1.set rd i))
end
end DV

namespace DV
open PySem L2 PyProof.Rows
/-! ### defs: what they promise, their bodies, their calls -/
def spD (K : PySem.W.Frag) (n : Nat) (f : FnD) : Sp := fun vs H Q E => vs.length = n ∧ ∃ ds φ s, Dts K φ H vs ds ∧ So K φ H s ∧ Ps K E (Dt K) φ H (fun _ v H' _ _ => Q v H') (f ds s)
def runFn (n : Nat) (b : DS) : FnD := fun args s => match b (startD n args) s with
  | some (.rt d, s') => some (.ok d, s')
  | some (.nx _, s') => some (.ok .non, s')
  | some (.ex x _, s') => some (.error x, s')
  | _ => none
/-- the context of a def's body -/
abbrev Bx (P : Program) (w : World) (K : PySem.W.Frag) (mg : Str → Option Value) (base : Heap) (N : List Str) (qual : Str) (sc : Scope) (f : Addr) (cdv : Value) (A : Around) (outer : List Env) (s : Shared) (H : Hp) (E : XK) : Cx :=
  cxOf (L2.CX P w) P w K mg base N qual sc f cdv A outer s H E
abbrev EW (E : XK) : WX := fun c d _ H => E c d H
section
variable {P : Program} {w : World} {K : PySem.W.Frag} {mg : Str → Option Value} {base : Heap}
/-- room, and no object is being shown -/
structure RoomG (k : Nat) (A : Around) : Prop where
  rm : Room k A
  gd : A.guards = some []
theorem RoomG.mono {j k : Nat} {A : Around} (r : RoomG k A) (h : j ≤ k) : RoomG j A := ⟨r.rm.mono h, r.gd⟩
theorem gd_deeper {A : Around} {env : Env} (h : A.guards = some []) : (A.deeper env).guards = some [] := h
theorem gd_make {A : Around} {C : Addr} {us : List Value} {kw : List (Str × Value)} (h : A.guards = some []) : (A.under (.builtin "type.__call__" ⟨.ref C :: us, kw⟩)).guards = some [] := by
  first
    | exact h
    | (simp [Around.under, pushGuards, Code.guards, Code.isGuard, guardIds, h])
theorem RoomG.deeper {k : Nat} {A : Around} (r : RoomG (k + 1) A) (env : Env) : RoomG k (A.deeper env) := ⟨r.rm.deeper env, gd_deeper r.gd⟩
theorem RoomG.make {k : Nat} {A : Around} (r : RoomG (k + 1) A) (C : Addr) (us : List Value) (kw : List (Str × Value)) : RoomG k (A.under (.builtin "type.__call__" ⟨.ref C :: us, kw⟩)) := ⟨r.rm.make C us kw, gd_make r.gd⟩
/-- the def at f does the run fM, wherever it is called with room and nothing being shown -/
structure FnG (P : Program) (w : World) (K : PySem.W.Frag) (mg : Str → Option Value) (base : Heap) (k : Nat) (f : Addr) (fd : FuncData) (ps : List Str) (fM : FnD) : Prop where
  run : ∀ (A : Around) (outer : List Env) (s : Shared) (H : Hp) (args : Args) (us : List Value) (vs : List V) (Q : VK) (E : XK), RoomG k A → Env0 P w K mg base A outer s H → BindsTo s fd args (ps.zip us) → Vals vs us → spD K ps.length fM vs H Q E →
    codeAny (model P w) A (.call (.ref f) args) (CR (L2.CX P w) outer P w H s Q E) s
theorem fn_mkD {x qual : Str} {st : Stmt} {f : Addr} {fd : FuncData} {N ps : List Str} {k n : Nat} {b : DS} {M : FnD} (hM : M = runFn n b) (hn : N.length = n) (F : Fun K x qual st f fd) (S : FnScope N ps (defScope st))
    (hb : ∀ (cdv : Value) (A : Around) (outer : List Env) (s : Shared) (H : Hp) (E : XK), RoomG k (Bx P w K mg base N qual (defScope st) f cdv A outer s H E).A → Takes (Bx P w K mg base N qual (defScope st) f cdv A outer s H E) (EW E) →
      PassesOwn (model P w) (Bx P w K mg base N qual (defScope st) f cdv A outer s H E).A (Bx P w K mg base N qual (defScope st) f cdv A outer s H E).env (Bx P w K mg base N qual (defScope st) f cdv A outer s H E).xe →
      DSs (Bx P w K mg base N qual (defScope st) f cdv A outer s H E) (EW E) (defBody st) b) : FnG P w K mg base (k + 1) f fd ps M := by
  subst hM hn
  refine ⟨fun A outer s H args us vs Q E hr env0 bind rel hsp => ?_⟩
  obtain ⟨hl, ds, φ, st', rd, so, h⟩ := hsp
  obtain ⟨oc, od, kV, doc, pm, an, cdv, ct, osl, rfl, lk, hcd⟩ := F.ex
  have old : ∀ (a : Addr) (u : Obj), base.get? a = some u → s.heap.get? a = some u := fun a u e => (env0.bs a u e).1
  have kin := env0.mod.kin.keeps old
  have par : ∀ y ∈ ps.zip us, (defScope st).names.lookup y.1 = some .local ∨ ((defScope st).names.lookup y.1 = some .cell ∧ ((cellsFrom (s.heap.objs.size + 1) (defScope st).names []).lookup y.1).isSome = true) := fun y hy => by
    rcases S.par y.1 (List.of_mem_zip (a := y.1) (b := y.2) hy).1 with q | q
    · exact Or.inl q
    · exact Or.inr (And.intro q (PySem.W.cellsFrom_some _ _ _ (Or.inl q)))
  refine codeAny_call_function hr.rm.depth (kin _ _ lk) rfl S.co S.gen rfl (PySem.W.codeRec_of kin hcd) (bind _ _ _ _ ?_)
  refine wpAny_newFunctionEnv_cells S.kind par fun env henv t1 inc => ?_
  subst henv
  have body := hb cdv A outer s H E (hr.deeper _) (takes_of rfl rfl rfl rfl) (passes_of rfl)
  have J0 : Inv (Bx P w K mg base N qual (defScope st) f cdv A outer s H E) [] (L2.start N vs) H t1 := inv_start S hr.rm.hd env0 hl rel inc
  have start : upS K (EW E) b { nx := fun _ H' => Q .non H', rt := Q } (L2.start N vs) H := by
    refine ⟨startD N.length ds, φ, st', Sg.start rd, so, ?_⟩
    unfold runFn at h
    cases e : b (startD N.length ds) st' with
    | none => rw [e] at h; exact h.elim
    | some p =>
      obtain ⟨q, s'⟩ := p
      rw [e] at h
      cases q with
      | rt d => exact h
      | nx Δ => exact fun ψ σ' H' g so' _ => h ψ .non H' g so' .non
      | ex x Δ => exact fun ψ σ' H' c dd g so' _ xr => h ψ H' c dd g so' xr
      | bk Δ => exact h.elim
      | ct Δ => exact h.elim
  have ends : ∀ {σ' : L2.St} {H' : Hp} {v : V} {u : Value} {t2 : Shared}, Inv (Bx P w K mg base N qual (defScope st) f cdv A outer s H E) [] σ' H' t2 → RelV v u → Q v H' → CE outer P w H s Q u t2 := fun {σ' H' v u t2} J rv q => ⟨v, H', J.os, J.bare, J.base, J.hok, rv, q⟩
  refine ⟨env0.mod.nolimit.keeps fun a u e => inc.toInCall.keep a u (old a u e), codeAny_func (wpAny_mono (body.run [] t1 (L2.start N vs) H _ J0 start) (fun fl t2 hs => ?_) fun _ _ hs => hs)⟩
  cases fl with
  | ret u => obtain ⟨v, σ', H', J, rv, q⟩ := hs; exact ends J rv q
  | next => obtain ⟨σ', H', J, q⟩ := hs; exact ends (v := V.non) (u := Value.none) J rfl q
  | brk => obtain ⟨_, _, _, q⟩ := hs; exact q.elim
  | cont => obtain ⟨_, _, _, q⟩ := hs; exact q.elim
end
section
variable {X : Cx} {W : WX} {k : Nat} {f C : Addr} {fd : FuncData} {ps : List Str} {fM : FnD} {dvs : List V} {dds : List D} {ds : List Value} {x m : Str} {p pos apos : Pos} {e o : Expr} {es : List Expr} {da : DA}
abbrev FnX (X : Cx) (k : Nat) (f : Addr) (fd : FuncData) (ps : List Str) (fM : FnD) : Prop := FnG X.prog X.w X.K X.mg X.base k f fd ps fM
/-- the run of a callee over the data -/
def dCl (fM : FnD) (da : DA) : DX := fun Δ => mbind (da Δ) fM
theorem call_sp {φ : List Addr} {H : Hp} {s : Sto} {vs : List V} {xs : List D} {Q : VK} {σ : L2.St} (F : FnX X k f fd ps fM) (hb : Binds X.K fd ps []) (hl : vs.length = ps.length) (so : So X.K φ H s) (rx : Dts X.K φ H vs xs) (h : Ps X.K (wAt W σ) (Dt X.K) φ H (fun _ v H' _ _ => Q v H') (fM xs s)) :
    spD X.K ps.length fM (vs ++ []) H Q (WE W σ) := by
  rw [List.append_nil]
  exact ⟨hl, xs, φ, s, rx, so, h⟩
/-- how many arguments -/
def argN (n : Nat) (fM : FnD) : FnD := fun xs s => if xs.length = n then fM xs s else none
theorem argN_len {K : PySem.W.Frag} {E : WK} {φ : List Addr} {H : Hp} {s : Sto} {n : Nat} {xs : List D} {C : List Addr → V → Hp → D → Sto → Prop} (h : Ps K E (Dt K) φ H C (argN n fM xs s)) : xs.length = n ∧ Ps K E (Dt K) φ H C (fM xs s) := by
  unfold argN at h
  split at h
  · rename_i z; exact ⟨z, h⟩
  · exact h.elim
theorem run_fnG {pins : List (Addr × Obj)} {σ : L2.St} {H : Hp} {s : Shared} {Q : VK} {us : List Value} {vs : List V} (F : FnX X k f fd ps fM) (hr : RoomG k X.A) (hb : Binds X.K fd ps []) (tk : Takes X W) (I : Inv X pins σ H s) (r : Vals vs us) (h : spD X.K ps.length fM (vs ++ []) H Q (WE W σ)) :
    wpAny (model X.prog X.w) X.A (call (.ref f) us) (EP X pins σ Q) X.xe s := by
  rw [List.append_nil] at h
  have hl : us.length = ps.length := r.length.symm.trans h.1
  have bb := hb s us I.kIn (by rw [List.append_nil]; exact hl)
  rw [List.append_nil] at bb
  refine wpAny_call (codeAny_mono (F.run X.A X.stack s H ⟨us, []⟩ us vs Q (WE W σ) hr I.env0 bb r h) fun q s' hq => ?_)
  cases q with
  | error e => exact passAt tk σ pins H s e s' I hq
  | ok fl => cases fl with
    | ret u => exact I.after hq
    | next => exact hq.elim
    | brk => exact hq.elim
    | cont => exact hq.elim
theorem de_call_l (F : FnX X k f fd ps fM) (hr : RoomG k X.A) (hm : X.mg x = some (.ref f)) (hk : PySem.W.keepIn X.K (.ref f) = true) (hb : Binds X.K fd ps []) (tk : Takes X W) (ha : DAs X W (e :: es) da) (hg : Gl X x := by rfl)
    (hdb : (x == ("__debug__" : Str)) = false := by decide) (he : starEach (e :: es) X.env = (false, eval e X.env) :: starEach es X.env := by rfl) (hpl : (backTo pos (starEach es X.env)).any (·.1) = false := by rfl) :
    DE X W (.Call (.Name x p) (e :: es) [] pos) (dCl (argN ps.length fM) da) := by
  refine ⟨fun pins s σ H Q I ⟨Δ, φ, st, hσ, hs, h⟩ => wpAny_Call_Name_kw (ld_glob I hg hm ?_ hdb)⟩
  have hA : upA X.K W da σ H fun vs H2 => ∃ φ2 xs s2, So X.K φ2 H2 s2 ∧ Dts X.K φ2 H2 vs xs ∧ Ps X.K (wAt W σ) (Dt X.K) φ2 H2 (fun _ v H' _ _ => Q v H') (argN ps.length fM xs s2) :=
    upA_bind hσ hs h fun φ2 vs H2 xs s2 f2 hσ2 hs2 rs h3 => ⟨φ2, xs, s2, hs2, rs, h3⟩
  refine PySem.W.callWith_K (h₀ := X.base) I.ok.mod.kin hk (thn (ha.run pos pins s σ H _ I hA) fun us t1 ⟨vs, H1, I1, r, φ2, xs, s2, hs2, rs, h3⟩ => ⟨I1.kIn, ?_⟩) he hpl
  obtain ⟨hl, h4⟩ := argN_len h3
  exact run_fnG F hr hb tk I1 r (call_sp F hb (by rw [rs.length]; exact hl) hs2 rs h4)
theorem de_call0 (F : FnX X k f fd [] fM) (hr : RoomG k X.A) (hm : X.mg x = some (.ref f)) (hk : PySem.W.keepIn X.K (.ref f) = true) (hb : Binds X.K fd [] []) (tk : Takes X W) (hg : Gl X x := by rfl) (hdb : (x == ("__debug__" : Str)) = false := by decide) :
    DE X W (.Call (.Name x p) [] [] pos) (dCl fM dNil) :=
  ⟨fun pins s σ H Q I ⟨Δ, φ, st, hσ, hs, h⟩ => wpAny_Call_Name_kw (ld_glob I hg hm (PySem.W.callWith_K0 I.kIn hk (run_fnG (us := []) (vs := []) F hr hb tk I .nil (call_sp F hb rfl hs .nil h))) hdb)⟩
/-! ### methods of own classes -/
/-- o is an instance of C without an attribute m of its own -/
def mIns (C : Addr) (m : Str) (x : D) : M Unit := fun s => match x with
  | .obj n => match insAt s n with
    | some (C', fs) => if C' = C ∧ fs.lookup m = none then some (.ok (), s) else none
    | none => none
  | _ => none
theorem mIns_bind {K : PySem.W.Frag} {φ : List Addr} {H : Hp} {s : Sto} {x : D} {v : V} {γ δ : Type} {R' : List Addr → Hp → δ → γ → Prop} {W : WK} {Cc : List Addr → δ → Hp → γ → Sto → Prop} {k : Unit → M γ} (so : So K φ H s) (rx : Dt K φ H v x)
    (h : Ps K W R' φ H Cc (mbind (mIns C m x) k s)) : (∃ a dx fs, v = .ref a ∧ H a = some (.ins C dx fs) ∧ fs.lookup m = none) ∧ Ps K W R' φ H Cc (k () s) := by
  unfold mbind at h
  cases e : mIns C m x s with
  | none => rw [e] at h; exact h.elim
  | some p =>
    unfold mIns at e
    split at e
    · split at e
      · rename_i n C' fs e1
        split at e
        · rename_i z
          cases e
          obtain ⟨z1, z2⟩ := z
          subst z1
          cases rx
          rename_i a ha
          obtain ⟨b, hb, dx, vs, k, r⟩ := so.at (insAt_eq e1)
          rw [ha] at hb
          cases hb
          refine ⟨⟨a, dx, vs, rfl, k, r.lookup_none z2⟩, ?_⟩
          simp only [mIns, e1, z2, and_self, if_true] at h
          exact h
        · cases e
      · cases e
    · cases e
def dMe (C : Addr) (m : Str) (fM : FnD) (dx : DX) (da : DA) : DX := fun Δ => mbind (dx Δ) fun x => mbind (mIns C m x) fun _ => mbind (da Δ) fun xs => fM (x :: xs)
theorem de_meth_l {dx : DX} {pl : Sem Bool} (he : DE X W o dx) (c : Cls X.K C) (hm : Meth X.K C m f) (F : FnX X k f fd ps fM) (hr : RoomG k X.A) (hb : Binds X.K fd ps []) (tk : Takes X W) (ha : DAs X W (e :: es) da)
    (hst : starEach (e :: es) X.env = (false, eval e X.env) :: starEach es X.env := by rfl) (hpl : (backTo pos (starEach es X.env)).any (·.1) = false := by rfl)
    (ht : eval (.Call (.Attribute o m apos) (e :: es) [] pos) X.env = (do let ov ← eval o X.env; standAt apos.atName; let (f, first) ← holding [ov] (getMethod ov m pl); callWith pos f first (backTo pos (starEach (e :: es) X.env)) (backToKw pos (keywordEach [] X.env))) := by rfl) :
    DE X W (.Call (.Attribute o m apos) (e :: es) [] pos) (dMe C m (argN ps.length fM) dx da) := by
  refine ⟨fun pins s σ H Q I ⟨Δ, φ, st, hσ, hs, h⟩ => ?_⟩
  have hE : upE X.K W dx σ H fun v H1 => ∃ φ1 x s1, Sg X.K φ1 H1 σ Δ ∧ So X.K φ1 H1 s1 ∧ Dt X.K φ1 H1 v x ∧ Ps X.K (wAt W σ) (Dt X.K) φ1 H1 (fun _ v H' _ _ => Q v H') (mbind (mIns C m x) (fun _ => mbind (da Δ) fun xs => argN ps.length fM (x :: xs)) s1) :=
    upE_bind hσ hs h fun φ1 v H1 x s1 f1 hσ1 hs1 rx h1 => ⟨φ1, x, s1, hσ1, hs1, rx, h1⟩
  refine PySem.W.methodCall_KW (pl := pl) (thn (he.run pins s σ H _ I hE) fun u t1 ⟨v, H1, I1, rv, φ1, x, s1, hσ1, hs1, rx, h1⟩ => ?_) ht
  obtain ⟨⟨a, dxx, fs, rfl, ea, lk⟩, h2⟩ := mIns_bind hs1 rx h1
  obtain rfl : u = Value.ref a := rv
  refine getmeth_ok I1 ea c hm lk ?_
  have hA : upA X.K W da σ H1 fun vs H2 => ∃ φ2 xs s2, So X.K φ2 H2 s2 ∧ Dt X.K φ2 H2 (.ref a) x ∧ Dts X.K φ2 H2 vs xs ∧ Ps X.K (wAt W σ) (Dt X.K) φ2 H2 (fun _ v H' _ _ => Q v H') (argN ps.length fM (x :: xs) s2) :=
    upA_bind hσ1 hs1 h2 fun φ2 vs H2 xs s2 f2 hσ2 hs2 rs h3 => ⟨φ2, xs, s2, hs2, rx.fu f2, rs, h3⟩
  refine PySem.W.callWith_K (first := [Value.ref a]) (h₀ := X.base) I.ok.mod.kin hm.kp (thn (ha.run pos pins t1 σ H1 _ I1 hA) fun us t2 ⟨vs, H2, I2, r, φ2, xs, s2, hs2, rx2, rs, h3⟩ => ⟨I2.kIn, ?_⟩) hst hpl
  obtain ⟨hl, h4⟩ := argN_len h3
  exact run_fnG (us := Value.ref a :: us) (vs := V.ref a :: vs) F hr hb tk I2 (.cons rfl r) (call_sp F hb (by rw [List.length_cons, rs.length]; exact hl) hs2 (.cons rx2 rs) h4)
theorem de_meth0_l {dx : DX} {pl : Sem Bool} (he : DE X W o dx) (c : Cls X.K C) (hm : Meth X.K C m f) (F : FnX X k f fd ps fM) (hr : RoomG k X.A) (hb : Binds X.K fd ps []) (tk : Takes X W)
    (ht : eval (.Call (.Attribute o m apos) [] [] pos) X.env = (do let ov ← eval o X.env; standAt apos.atName; let (f, first) ← holding [ov] (getMethod ov m pl); callWith pos f first (backTo pos (starEach [] X.env)) (backToKw pos (keywordEach [] X.env))) := by rfl) :
    DE X W (.Call (.Attribute o m apos) [] [] pos) (dMe C m (argN ps.length fM) dx dNil) := by
  refine ⟨fun pins s σ H Q I ⟨Δ, φ, st, hσ, hs, h⟩ => ?_⟩
  have hE : upE X.K W dx σ H fun v H1 => ∃ φ1 x s1, Sg X.K φ1 H1 σ Δ ∧ So X.K φ1 H1 s1 ∧ Dt X.K φ1 H1 v x ∧ Ps X.K (wAt W σ) (Dt X.K) φ1 H1 (fun _ v H' _ _ => Q v H') (mbind (mIns C m x) (fun _ => mbind (dNil Δ) fun xs => argN ps.length fM (x :: xs)) s1) :=
    upE_bind hσ hs h fun φ1 v H1 x s1 f1 hσ1 hs1 rx h1 => ⟨φ1, x, s1, hσ1, hs1, rx, h1⟩
  refine PySem.W.methodCall_KW (pl := pl) (thn (he.run pins s σ H _ I hE) fun u t1 ⟨v, H1, I1, rv, φ1, x, s1, hσ1, hs1, rx, h1⟩ => ?_) ht
  obtain ⟨⟨a, dxx, fs, rfl, ea, lk⟩, h2⟩ := mIns_bind hs1 rx h1
  obtain rfl : u = Value.ref a := rv
  refine getmeth_ok I1 ea c hm lk ?_
  obtain ⟨hl, h4⟩ := argN_len (xs := [x]) h2
  exact PySem.W.callWith_K0 (first := [Value.ref a]) I1.kIn hm.kp (run_fnG (us := [Value.ref a]) (vs := [V.ref a]) F hr hb tk I1 (.cons rfl .nil) (call_sp F hb (by simpa using hl) hs1 (.cons rx .nil) h4))
/-! ### new instances -/
def mMk (C : Addr) (fM : FnD) (xs : List D) : M D := fun s => match fM (.obj s.length :: xs) (s ++ [.ins C []]) with
  | some (.ok .non, s') => some (.ok (.obj s.length), s')
  | some (.error x, s') => some (.error x, s')
  | _ => none
def dMk (C : Addr) (fM : FnD) (da : DA) : DX := fun Δ => mbind (da Δ) (mMk C fM)
theorem run_mk {pins : List (Addr × Obj)} {σ : L2.St} {H : Hp} {t : Shared} {Q : VK} {us : List Value} {vs : List V} {xs : List D} {φ : List Addr} {s : Sto} (Mc : Mk X.K C f) (F : FnX X k f fd ps fM) (hr : RoomG (k + 1) X.A) (hb : Binds X.K fd ps []) (tk : Takes X W)
    (I : Inv X pins σ H t) (r : Vals vs us) (so : So X.K φ H s) (rx : Dts X.K φ H vs xs) (h : Ps X.K (wAt W σ) (Dt X.K) φ H (fun _ v H' _ _ => Q v H') (mMk C (argN ps.length fM) xs s)) : wpAny (model X.prog X.w) X.A (call (.ref C) us) (EP X pins σ Q) X.xe t := by
  have I2 := Inv.made (C := C) I
  generalize ex : t.heap.objs.size + 1 = a at I2
  generalize ed : t.heap.objs.size = dx at I2 ex
  have hdx : H dx = none := I.hok.fresh (Nat.le_of_eq ed)
  have ha : H a = none := I.hok.fresh (by omega)
  have hne : a ≠ dx := by omega
  have so1 : So X.K φ (upd H dx (.own a)) s := so.new hdx
  have ha1 : upd H dx (.own a) a = none := by rw [upd_ne hne]; exact ha
  have f1 : Fu X.K φ φ H (upd H dx (.own a)) := fu_new hdx
  have f2 : Fu X.K φ (φ ++ [a]) (upd H dx (.own a)) (upd (upd H dx (.own a)) a (.ins C dx [])) := fu_newO ha1
  have so2 : So X.K (φ ++ [a]) (upd (upd H dx (.own a)) a (.ins C dx [])) (s ++ [.ins C []]) := so1.newO ha1 ⟨dx, [], upd_same, .nil⟩
  have ra : Dt X.K (φ ++ [a]) (upd (upd H dx (.own a)) a (.ins C dx [])) (.ref a) (.obj s.length) := obj_new so1
  have rs : Dts X.K (φ ++ [a]) (upd (upd H dx (.own a)) a (.ins C dx [])) (.ref a :: vs) (.obj s.length :: xs) := .cons ra ((rx.fu f1).fu f2)
  have hq : xs.length + 1 = ps.length ∧ Ps X.K (wAt W σ) (Dt X.K) (φ ++ [a]) (upd (upd H dx (.own a)) a (.ins C dx [])) (fun ψ v H' d s' => v = .non ∧ Q (.ref a) H') (fM (.obj s.length :: xs) (s ++ [.ins C []])) := by
    unfold mMk argN at h
    by_cases z : (D.obj s.length :: xs).length = ps.length
    · rw [if_pos z] at h
      refine ⟨by simpa using z, ?_⟩
      cases e : fM (.obj s.length :: xs) (s ++ [.ins C []]) with
      | none => rw [e] at h; exact h.elim
      | some p =>
        obtain ⟨q, s'⟩ := p
        rw [e] at h
        cases q with
        | error x => exact h.shift (f1.trans f2)
        | ok d =>
          cases d <;> first | exact h.elim | skip
          intro ψ v H' f3 so3 rv
          cases rv
          exact ⟨rfl, h ψ (.ref a) H' ((f1.trans f2).trans f3) so3 (ra.fu f3)⟩
    · rw [if_neg z] at h
      exact h.elim
  obtain ⟨hl, hq⟩ := hq
  have hv : (V.ref a :: vs).length = ps.length := by rw [List.length_cons, rx.length]; exact hl
  have r2 : Vals (V.ref a :: vs) (Value.ref a :: us) := .cons rfl r
  have hu : (Value.ref a :: us).length = ps.length := by rw [← r2.length]; exact hv
  have bb := hb _ (Value.ref a :: us) I2.kIn (by rw [List.append_nil]; exact hu)
  rw [List.append_nil] at bb
  refine wpAny_call (make_map (f := f) I.kIn Mc.makes Mc.init (beq_iff_eq.mp Mc.fn) ?_)
  rw [ed, ex]
  refine codeAny_mono (F.run _ X.stack _ _ ⟨Value.ref a :: us, []⟩ (Value.ref a :: us) (V.ref a :: vs) (fun v H2 => v = .non ∧ Q (.ref a) H2) (WE W σ) (hr.make C us []) (I2.env0.make C us []) bb r2 ⟨hv, _, _, _, rs, so2, hq⟩) fun q s' hq' => ?_
  cases q with
  | error e => exact passAt tk σ pins _ _ e s' I2 hq'
  | ok fl =>
    cases fl with
    | ret u =>
      obtain ⟨v, H', I3, rv, ev, q3⟩ := I2.after hq'
      cases ev
      exact ⟨rv, V.ref a, H', I3, rfl, q3⟩
    | next => exact hq'.elim
    | brk => exact hq'.elim
    | cont => exact hq'.elim
theorem de_make_l (Mc : Mk X.K C f) (F : FnX X k f fd ps fM) (hr : RoomG (k + 1) X.A) (hm : X.mg x = some (.ref C)) (hb : Binds X.K fd ps []) (tk : Takes X W) (ha : DAs X W (e :: es) da) (hg : Gl X x := by rfl)
    (hdb : (x == ("__debug__" : Str)) = false := by decide) (he : starEach (e :: es) X.env = (false, eval e X.env) :: starEach es X.env := by rfl) (hpl : (backTo pos (starEach es X.env)).any (·.1) = false := by rfl) :
    DE X W (.Call (.Name x p) (e :: es) [] pos) (dMk C (argN ps.length fM) da) := by
  refine ⟨fun pins s σ H Q I ⟨Δ, φ, st, hσ, hs, h⟩ => wpAny_Call_Name_kw (ld_glob I hg hm ?_ hdb)⟩
  have hA : upA X.K W da σ H fun vs H2 => ∃ φ2 xs s2, So X.K φ2 H2 s2 ∧ Dts X.K φ2 H2 vs xs ∧ Ps X.K (wAt W σ) (Dt X.K) φ2 H2 (fun _ v H' _ _ => Q v H') (mMk C (argN ps.length fM) xs s2) :=
    upA_bind hσ hs h fun φ2 vs H2 xs s2 f2 hσ2 hs2 rs h3 => ⟨φ2, xs, s2, hs2, rs, h3⟩
  refine PySem.W.callWith_K (h₀ := X.base) I.ok.mod.kin Mc.kp (thn (ha.run pos pins s σ H _ I hA) fun us t1 ⟨vs, H1, I1, r, φ2, xs, s2, hs2, rs, h3⟩ => ⟨I1.kIn, ?_⟩) he hpl
  exact run_mk Mc F hr hb tk I1 r hs2 rs h3
theorem de_call {n : Nat} (F : FnX X k f fd ps fM) (hr : RoomG k X.A) (hm : X.mg x = some (.ref f)) (hk : PySem.W.keepIn X.K (.ref f) = true) (hb : Binds X.K fd ps []) (tk : Takes X W) (ha : DAs X W (e :: es) da) (hn : ps.length = n := by rfl) (hg : Gl X x := by rfl)
    (hdb : (x == ("__debug__" : Str)) = false := by decide) (he : starEach (e :: es) X.env = (false, eval e X.env) :: starEach es X.env := by rfl) (hpl : (backTo pos (starEach es X.env)).any (·.1) = false := by rfl) :
    DE X W (.Call (.Name x p) (e :: es) [] pos) (dCl (argN n fM) da) := by
  subst hn
  exact de_call_l F hr hm hk hb tk ha hg hdb he hpl
theorem de_meth {n : Nat} {dx : DX} {pl : Sem Bool} (he : DE X W o dx) (c : Cls X.K C) (hm : Meth X.K C m f) (F : FnX X k f fd ps fM) (hr : RoomG k X.A) (hb : Binds X.K fd ps []) (tk : Takes X W) (ha : DAs X W (e :: es) da) (hn : ps.length = n := by rfl)
    (hst : starEach (e :: es) X.env = (false, eval e X.env) :: starEach es X.env := by rfl) (hpl : (backTo pos (starEach es X.env)).any (·.1) = false := by rfl)
    (ht : eval (.Call (.Attribute o m apos) (e :: es) [] pos) X.env = (do let ov ← eval o X.env; standAt apos.atName; let (f, first) ← holding [ov] (getMethod ov m pl); callWith pos f first (backTo pos (starEach (e :: es) X.env)) (backToKw pos (keywordEach [] X.env))) := by rfl) :
    DE X W (.Call (.Attribute o m apos) (e :: es) [] pos) (dMe C m (argN n fM) dx da) := by
  subst hn
  exact de_meth_l he c hm F hr hb tk ha hst hpl ht
theorem de_meth0 {n : Nat} {dx : DX} {pl : Sem Bool} (he : DE X W o dx) (c : Cls X.K C) (hm : Meth X.K C m f) (F : FnX X k f fd ps fM) (hr : RoomG k X.A) (hb : Binds X.K fd ps []) (tk : Takes X W) (hn : ps.length = n := by rfl)
    (ht : eval (.Call (.Attribute o m apos) [] [] pos) X.env = (do let ov ← eval o X.env; standAt apos.atName; let (f, first) ← holding [ov] (getMethod ov m pl); callWith pos f first (backTo pos (starEach [] X.env)) (backToKw pos (keywordEach [] X.env))) := by rfl) :
    DE X W (.Call (.Attribute o m apos) [] [] pos) (dMe C m (argN n fM) dx dNil) := by
  subst hn
  exact de_meth0_l he c hm F hr hb tk ht
theorem de_make {n : Nat} (Mc : Mk X.K C f) (F : FnX X k f fd ps fM) (hr : RoomG (k + 1) X.A) (hm : X.mg x = some (.ref C)) (hb : Binds X.K fd ps []) (tk : Takes X W) (ha : DAs X W (e :: es) da) (hn : ps.length = n := by rfl) (hg : Gl X x := by rfl)
    (hdb : (x == ("__debug__" : Str)) = false := by decide) (he : starEach (e :: es) X.env = (false, eval e X.env) :: starEach es X.env := by rfl) (hpl : (backTo pos (starEach es X.env)).any (·.1) = false := by rfl) :
    DE X W (.Call (.Name x p) (e :: es) [] pos) (dMk C (argN n fM) da) := by
  subst hn
  exact de_make_l Mc F hr hm hb tk ha hg hdb he hpl
/-! ### self.f = e -/
def putD (f : Str) (d : D) : List (Str × D) → List (Str × D)
  | [] => [(f, d)]
  | (g, y) :: r => if g = f then (g, d) :: r else (g, y) :: putD f d r
theorem put_prs {R : V → D → Prop} {f : Str} {v : V} {d : D} (q : R v d) : ∀ {vs : List (Str × V)} {ds : List (Str × D)}, Prs R vs ds → Prs R (putF f v vs) (putD f d ds)
  | _, _, .nil => .cons q .nil
  | _, _, .cons (k := k) h r => by
    by_cases e : k = f
    · simp only [putF, putD, if_pos e]
      first | exact .cons q r | (subst e; exact .cons q r)
    · simp only [putF, putD, if_neg e]
      exact .cons h (put_prs q r)
theorem Prs.length {κ : Type} {R : V → D → Prop} : ∀ {vs : List (κ × V)} {ds : List (κ × D)}, Prs R vs ds → vs.length = ds.length
  | _, _, .nil => rfl
  | _, _, .cons _ r => congrArg (· + 1) (Prs.length r)
def fStF (C : Addr) (f : Str) (o d : D) (s : Sto) : Option Sto := match o with
  | .obj n => match insAt s n with
    | some (C', fs) => if C' = C ∧ fs.length < 1000 then some (s.set n (.ins C (putD f d fs))) else none
    | none => none
  | _ => none
def dStF (C : Addr) (f : Str) (do_ dv : DX) : DS := fun Δ => sbind (dv Δ) Δ fun d => sbind (do_ Δ) Δ fun o s => match fStF C f o d s with
  | some s' => some (.nx Δ, s')
  | none => none
theorem ds_fld {fn : Str} {v : Expr} {eo ev : DX} {pos' : Pos} (c : Cls X.K C) (nf : NoAttr X.K C fn) (ho : DE X W o eo) (hv : DE X W v ev) (hs : swapsWith v (some (.Attribute o fn pos')) pos.line X.env = pure false := by rfl) : DSt X W (.Assign [.Attribute o fn pos'] v pos) (dStF C fn eo ev) :=
  ps_imp (ps_fld ho hv hs) fun D σ H ⟨Δ, φ, s, hσ, hs, h⟩ => sbE hσ hs h fun φ1 u H1 d s1 f1 hσ1 hs1 rd h1 => sbE hσ1 hs1 h1 fun φ2 uo H2 od s2 f2 hσ2 hs2 ro h2 => by
    unfold fStF at h2
    split at h2
    · rename_i s' e
      split at e
      · split at e
        · rename_i n C' fs e1
          split at e
          · rename_i z
            cases e
            obtain ⟨z1, z2⟩ := z
            subst z1
            cases ro
            rename_i a ha
            obtain ⟨b, hb, dx, vs, kk, r⟩ := hs2.at (insAt_eq e1)
            rw [ha] at hb
            cases hb
            have fu2 : Fu X.K φ2 φ2 H2 (upd H2 a (.ins C' dx (putF fn u vs))) := fu_set hs2 ha
            exact ⟨a, _, dx, vs, rfl, kk, c, nf, by rw [r.length]; exact z2, h2 φ2 _ _ fu2 (hs2.set ha ⟨dx, _, upd_same, (put_prs (rd.fu f2) r).fu fu2⟩) (hσ2.fu fu2)⟩
          · cases e
        · cases e
      · cases e
    · exact h2.elim
end
end DV

namespace DV
open PySem L2 PyProof.Rows
section
variable {X : Cx} {W : WX}
/-! ### chains -/
theorem chain_read {f g : Op2} {r r' : R2} (hr : ∀ φ H s x y v u Q, So X.K φ H s → Dt X.K φ H v x → Dt X.K φ H u y → PsO X.K φ H Q (f x y s) → r v u H Q)
    (hr' : ∀ φ H s x y v u Q, So X.K φ H s → Dt X.K φ H v x → Dt X.K φ H u y → PsO X.K φ H Q (g x y s) → r' v u H Q) (hf : ∀ x y s z s', f x y s = some (z, s') → s' = s) {da db dc : DX} {σ : L2.St} {H : Hp} {Q : VK}
    (h : upE X.K W (dChain f g da db dc) σ H Q) : tChain r r' (upE X.K W da) (upE X.K W db) (upE X.K W dc) σ H Q := by
  obtain ⟨Δ, φ, s, hσ, hs, h⟩ := h
  refine upE_bind hσ hs h fun φ1 v H1 x s1 f1 hσ1 hs1 rx h1 => upE_bind hσ1 hs1 h1 fun φ2 u H2 y s2 f2 hσ2 hs2 ry h2 => ?_
  refine hr φ2 H2 s2 x y v u _ hs2 (rx.fu f2) ry ?_
  unfold mbind lift2 at h2
  cases e : f x y s2 with
  | none => rw [e] at h2; exact h2.elim
  | some p =>
    obtain ⟨z, s3⟩ := p
    have es := hf _ _ _ _ _ e
    subst es
    rw [e] at h2
    intro φ3 w H3 f3 so3 rz
    have h3 := h2.shift f3
    cases z <;> first | exact h3.elim | skip
    rename_i b
    cases rz
    refine ⟨b, rfl, ?_⟩
    cases b with
    | false => exact iteF (h3.ok so3 (.bl _))
    | true =>
      refine iteT ?_
      exact upE_bind (hσ2.fu f3) so3 h3 fun φ4 w' H4 d s4 f4 hσ4 hs4 rd h4 => hr' φ4 H4 s4 y d u w' Q hs4 ((ry.fu f3).fu f4) rd (PsO.of h4)
/-- the two run on values and leave the store -/
def Pure2 (f : Op2) : Prop := ∀ x y s z s', f x y s = some (z, s') → s' = s
theorem pure_fI {c : Int → Int → Bool} {g : Int → Int → D} : Pure2 (fI c g) := fun x y s z s' e => by
  unfold fI at e
  split at e
  · split at e
    · cases e; rfl
    · cases e
  · cases e
theorem de_chain {op op' : CmpOp} {f g : Op2} {a b c : Expr} {da db dc : DX} {pos : Pos} (ho : DOp X (compareOp op) f) (ho' : DOp X (compareOp op') g) (pf : Pure2 f) (ha : DE X W a da) (hb : DE X W b db) (hc : DE X W c dc) (hm : lastMarks [op, op'] [b, c] = false := by with_unfolding_all rfl) :
    DE X W (.Compare a [op, op'] [b, c] pos) (dChain f g da db dc) := by
  obtain ⟨r, h, hr⟩ := ho
  obtain ⟨r', h', hr'⟩ := ho'
  exact pe_imp (pe_chain h h' ha hb hc hm) fun σ H Q q => chain_read hr hr' pf q
theorem dt_chain {op op' : CmpOp} {f g : Op2} {a b c : Expr} {da db dc : DX} {pos : Pos} (ho : DOp X (compareOp op) f) (ho' : DOp X (compareOp op') g) (pf : Pure2 f) (ha : DE X W a da) (hb : DE X W b db) (hc : DE X W c dc) (hm : lastMarks [op, op'] [b, c] = false := by with_unfolding_all rfl) :
    DTe X W (.Compare a [op, op'] [b, c] pos) (dTest (dChain f g da db dc)) := by
  obtain ⟨r, h, hr⟩ := ho
  obtain ⟨r', h', hr'⟩ := ho'
  exact pt_imp (pt_chain h h' ha hb hc hm) fun σ H Q q => chain_read hr hr' pf (bl_read q)
/-! ### dicts -/
def keyD : D → Option Key
  | .int i => some (.inl i)
  | .str x => some (.inr x)
  | _ => none
def valD {κ : Type} [DecidableEq κ] (kvs : List (κ × D)) (k : κ) : Option D := (kvs.find? fun kv => decide (kv.1 = k)).map (·.2)
def putKD {κ : Type} [DecidableEq κ] (kvs : List (κ × D)) (k : κ) (v : D) : List (κ × D) := if (kvs.any fun kv => decide (kv.1 = k)) = true then kvs.map (fun kv => if kv.1 = k then (kv.1, v) else kv) else kvs ++ [(k, v)]
theorem Prs.val {κ : Type} [DecidableEq κ] {R : V → D → Prop} (k : κ) : ∀ {vs : List (κ × V)} {ds : List (κ × D)}, Prs R vs ds → (∀ d, valD ds k = some d → ∃ v, valV vs k = some v ∧ R v d) ∧ (valD ds k = none → valV vs k = none)
  | _, _, .nil => ⟨fun d e => (by cases e), fun _ => rfl⟩
  | _, _, .cons (k := k') (v := v) (vs := vs) (d := d) (ds := ds) h r => by
    unfold valD valV
    rw [List.find?_cons, List.find?_cons]
    by_cases e : k' = k
    · simp only [e, decide_true]
      exact ⟨fun d e => (by cases e; exact ⟨v, rfl, h⟩), fun e => (by cases e)⟩
    · simp only [e, decide_false]
      exact Prs.val k r
theorem Prs.any {κ : Type} [DecidableEq κ] {R : V → D → Prop} (k : κ) : ∀ {vs : List (κ × V)} {ds : List (κ × D)}, Prs R vs ds → (vs.any fun kv => decide (kv.1 = k)) = ds.any fun kv => decide (kv.1 = k)
  | _, _, .nil => rfl
  | _, _, .cons h r => by rw [List.any_cons, List.any_cons, Prs.any k r]
theorem Prs.append {κ : Type} {R : V → D → Prop} : ∀ {vs ws : List (κ × V)} {ds es : List (κ × D)}, Prs R vs ds → Prs R ws es → Prs R (vs ++ ws) (ds ++ es)
  | _, _, _, _, .nil, q => q
  | _, _, _, _, .cons h r, q => .cons h (Prs.append r q)
theorem Prs.upd {κ : Type} [DecidableEq κ] {R : V → D → Prop} {k : κ} {v : V} {d : D} (q : R v d) : ∀ {vs : List (κ × V)} {ds : List (κ × D)}, Prs R vs ds → Prs R (vs.map (fun kv => if kv.1 = k then (kv.1, v) else kv)) (ds.map (fun kv => if kv.1 = k then (kv.1, d) else kv))
  | _, _, .nil => .nil
  | _, _, .cons (k := k') h r => by
    rw [List.map_cons, List.map_cons]
    by_cases e : k' = k
    · simp only [if_pos e]
      exact .cons q (Prs.upd q r)
    · simp only [if_neg e]
      exact .cons h (Prs.upd q r)
theorem Prs.put {κ : Type} [DecidableEq κ] {R : V → D → Prop} {k : κ} {v : V} {d : D} (q : R v d) {vs : List (κ × V)} {ds : List (κ × D)} (r : Prs R vs ds) : Prs R (putK vs k v) (putKD ds k d) := by
  unfold putK putKD
  rw [r.any k]
  split
  · exact r.upd q
  · exact r.append (.cons q .nil)
def dctAt (s : Sto) (n : Nat) : Option (List (Key × D)) := match s[n]? with
  | some (.dK xs) => some xs
  | _ => none
theorem dctAt_eq {s : Sto} {n : Nat} {xs : List (Key × D)} (h : dctAt s n = some xs) : s[n]? = some (.dK xs) := by
  unfold dctAt at h
  split at h
  · cases h; assumption
  · cases h
theorem So.dct {K : PySem.W.Frag} {φ : List Addr} {H : Hp} {s : Sto} (h : So K φ H s) {n : Nat} {xs : List (Key × D)} (e : dctAt s n = some xs) {a : Addr} (ha : φ[n]? = some a) : ∃ vs, H a = some (.dK vs) ∧ Prs (Dt K φ H) vs xs := by
  obtain ⟨b, hb, q⟩ := h.ob _ _ (dctAt_eq e)
  rw [ha] at hb
  cases hb
  exact q
theorem keyD_kV {K : PySem.W.Frag} {φ : List Addr} {H : Hp} {v : V} {x : D} {k : Key} (r : Dt K φ H v x) (e : keyD x = some k) : v = kV k := by
  cases r <;> first | (cases e; rfl) | cases e
def mDct (x : D) : M Unit := fun s => match x with
  | .obj n => match dctAt s n with
    | some _ => some (.ok (), s)
    | none => none
  | _ => none
/-- the entry at a key, of a dict -/
def dGetK (x y : D) (s : Sto) : Option (Option D) := match x with
  | .obj n => match dctAt s n with
    | some kvs => match keyD y with
      | some k => some (valD kvs k)
      | none => none
    | none => none
  | _ => none
theorem dGetK_ok {K : PySem.W.Frag} {φ : List Addr} {H : Hp} {s : Sto} {v u : V} {x y : D} {o : Option D} (so : So K φ H s) (rx : Dt K φ H v x) (ry : Dt K φ H u y) (e : dGetK x y s = some o) : ∃ a ov, v = .ref a ∧ DGet H a u ov ∧ (∀ d, o = some d → ∃ w, ov = some w ∧ Dt K φ H w d) ∧ (o = none → ov = none) := by
  unfold dGetK at e
  split at e
  · cases rx
    rename_i n a ha
    split at e
    · rename_i kvs e1
      split at e
      · rename_i k e2
        cases e
        obtain ⟨vs, h1, r⟩ := so.dct e1 ha
        obtain ⟨q1, q2⟩ := r.val k
        rw [keyD_kV ry e2]
        exact ⟨a, _, rfl, DGet.k h1, q1, q2⟩
      · cases e
    · cases e
  · cases e
theorem mDct_bind {K : PySem.W.Frag} {φ : List Addr} {H : Hp} {s : Sto} {x : D} {v : V} {γ δ : Type} {R' : List Addr → Hp → δ → γ → Prop} {W : WK} {Cc : List Addr → δ → Hp → γ → Sto → Prop} {k : Unit → M γ} (so : So K φ H s) (rx : Dt K φ H v x)
    (h : Ps K W R' φ H Cc (mbind (mDct x) k s)) : (∃ a, v = .ref a ∧ IsD H a) ∧ Ps K W R' φ H Cc (k () s) := by
  unfold mbind at h
  cases e : mDct x s with
  | none => rw [e] at h; exact h.elim
  | some p =>
    rw [e] at h
    unfold mDct at e
    split at e
    · cases rx
      rename_i n a ha
      split at e
      · rename_i kvs e1
        cases e
        obtain ⟨vs, h1, r⟩ := so.dct e1 ha
        exact ⟨⟨a, rfl, .inl ⟨vs, .inl h1⟩⟩, h⟩
      · cases e
    · cases e
def dDGet1 (dx dy : DX) : DX := fun Δ => mbind (dx Δ) fun x => mbind (mDct x) fun _ => mbind (dy Δ) fun y s => match dGetK x y s with
  | some o => some (.ok (o.getD .non), s)
  | none => none
def dDGet2 (dx dy dz : DX) : DX := fun Δ => mbind (dx Δ) fun x => mbind (mDct x) fun _ => mbind (dy Δ) fun y => mbind (dz Δ) fun z s => match dGetK x y s with
  | some o => some (.ok (o.getD z), s)
  | none => none
theorem getD_dt {K : PySem.W.Frag} {φ : List Addr} {H : Hp} {o : Option D} {ov : Option V} {d : D} {w : V} (h1 : ∀ d, o = some d → ∃ w, ov = some w ∧ Dt K φ H w d) (h2 : o = none → ov = none) (r : Dt K φ H w d) : Dt K φ H (ov.getD w) (o.getD d) := by
  cases o with
  | none => rw [h2 rfl]; exact r
  | some x =>
    obtain ⟨w', e, r'⟩ := h1 x rfl
    rw [e]
    exact r'
theorem de_dget1 {o e : Expr} {dx dy : DX} {apos cpos : Pos} (hu : X.A.units + 1 < cLine) (ho : DE X W o dx) (he : DE X W e dy) (m : M1 X o "get" apos e cpos := by exact ⟨rfl, rfl, rfl, rfl⟩) : DE X W (.Call (.Attribute o "get" apos) [e] [] cpos) (dDGet1 dx dy) :=
  pe_imp (pe_dget1 hu ho he m) fun σ H Q ⟨Δ, φ, s, hσ, hs, h⟩ => upE_bind hσ hs h fun φ1 v H1 x s1 f1 hσ1 hs1 rx h1 => by
    obtain ⟨⟨a, rfl, d⟩, h2⟩ := mDct_bind hs1 rx h1
    refine ⟨a, rfl, d, upE_bind hσ1 hs1 h2 fun φ2 u H2 y s2 f2 hσ2 hs2 ry h3 => ?_⟩
    split at h3
    · rename_i o e
      obtain ⟨b, ov, eb, g, q1, q2⟩ := dGetK_ok hs2 (rx.fu f2) ry e
      cases eb
      exact ⟨ov, g, h3.ok hs2 (getD_dt q1 q2 .non)⟩
    · exact h3.elim
theorem de_dget2 {o e f : Expr} {dx dy dz : DX} {apos cpos : Pos} (hu : X.A.units + 1 < cLine) (ho : DE X W o dx) (he : DE X W e dy) (hf : DE X W f dz) (m : M2 X o "get" apos e f cpos := by exact ⟨rfl, rfl, rfl, rfl⟩) : DE X W (.Call (.Attribute o "get" apos) [e, f] [] cpos) (dDGet2 dx dy dz) :=
  pe_imp (pe_dget2 hu ho he hf m) fun σ H Q ⟨Δ, φ, s, hσ, hs, h⟩ => upE_bind hσ hs h fun φ1 v H1 x s1 f1 hσ1 hs1 rx h1 => by
    obtain ⟨⟨a, rfl, d⟩, h2⟩ := mDct_bind hs1 rx h1
    refine ⟨a, rfl, d, upE_bind hσ1 hs1 h2 fun φ2 u H2 y s2 f2 hσ2 hs2 ry h3 => upE_bind hσ2 hs2 h3 fun φ3 w H3 z s3 f3 hσ3 hs3 rz h4 => ?_⟩
    split at h4
    · rename_i o e
      obtain ⟨b, ov, eb, g, q1, q2⟩ := dGetK_ok hs3 ((rx.fu f2).fu f3) (ry.fu f3) e
      cases eb
      exact ⟨ov, g, h4.ok hs3 (getD_dt q1 q2 rz)⟩
    · exact h4.elim
/-- d[k] -/
def dDIx (dx dy : DX) : DX := fun Δ => mbind (dx Δ) fun x => mbind (dy Δ) fun y s => match dGetK x y s with
  | some (some d) => some (.ok d, s)
  | _ => none
theorem de_dix {o i : Expr} {dx dy : DX} {pos : Pos} (hu : X.A.units + 1 < cLine) (ho : DE X W o dx) (hi : DE X W i dy) (hs : NoSl i := by exact fun _ _ => rfl) : DE X W (.Subscript o i pos) (dDIx dx dy) :=
  pe_imp (pe_dget hu ho hi hs) fun σ H Q ⟨Δ, φ, s, hσ, hs, h⟩ => upE_bind hσ hs h fun φ1 v H1 x s1 f1 hσ1 hs1 rx h1 => upE_bind hσ1 hs1 h1 fun φ2 u H2 y s2 f2 hσ2 hs2 ry h2 => by
    split at h2
    · rename_i d e
      obtain ⟨a, ov, rfl, g, q1, q2⟩ := dGetK_ok hs2 (rx.fu f2) ry e
      obtain ⟨w, rfl, rw⟩ := q1 d rfl
      exact ⟨a, w, rfl, g, h2.ok hs2 rw⟩
    · exact h2.elim
/-- {} with keys that are ints or texts -/
def dDNew : DX := fun _ => mnew (.dK [])
theorem de_dnew {pos : Pos} : DE X W (.Dict [] [] pos) dDNew := pe_imp pe_dnewK fun σ H Q ⟨Δ, φ, s, hσ, hs, h⟩ p hp => h _ _ _ (fu_newO hp) (hs.newO (o := .dK []) hp ⟨[], upd_same, .nil⟩) (obj_new hs)
/-- d[k] = v -/
def dDPut (dx dy dv : DX) : DS := fun Δ => sbind (dv Δ) Δ fun v => sbind (dx Δ) Δ fun x => sbind (dy Δ) Δ fun y s => match x with
  | .obj n => match dctAt s n with
    | some kvs => match keyD y with
      | some k => if kvs.length < sizeLine then some (.nx Δ, s.set n (.dK (putKD kvs k v))) else none
      | none => none
    | none => none
  | _ => none
theorem ds_dput {o i value : Expr} {dx dy dv : DX} {pos pos' : Pos} (hu : X.A.units + 1 < cLine) (ho : DE X W o dx) (hi : DE X W i dy) (hv : DE X W value dv) (hs : swapsWith value (some (.Subscript o i pos')) pos.line X.env = pure false := by rfl) :
    DSt X W (.Assign [.Subscript o i pos'] value pos) (dDPut dx dy dv) :=
  ps_imp (ps_dput hu ho hi hv hs) fun D σ H ⟨Δ, φ, s, hσ, hs, h⟩ => sbE hσ hs h fun φ1 w H1 d s1 f1 hσ1 hs1 rd h1 => sbE hσ1 hs1 h1 fun φ2 v H2 x s2 f2 hσ2 hs2 rx h2 => sbE hσ2 hs2 h2 fun φ3 u H3 y s3 f3 hσ3 hs3 ry h3 => by
    split at h3
    · rename_i n
      have rx3 := rx.fu f3
      have rd3 := (rd.fu f2).fu f3
      cases rx3
      rename_i a ha
      split at h3
      · rename_i kvs e1
        split at h3
        · rename_i k e2
          split at h3
          · rename_i hz
            obtain ⟨vs, k1, r⟩ := hs3.dct e1 ha
            rw [keyD_kV ry e2]
            have ff : Fu X.K φ3 φ3 H3 (upd H3 a (.dK (putK vs k w))) := fu_set hs3 ha
            exact ⟨a, _, rfl, DPut.k k1 (by rw [r.length]; exact hz), h3 φ3 _ _ ff (hs3.set (o := .dK (putKD kvs k d)) ha ⟨_, upd_same, (r.put rd3).fu ff⟩) (hσ3.fu ff)⟩
          · exact h3.elim
        · exact h3.elim
      · exact h3.elim
    · exact h3.elim
/-- d.setdefault(k, v) -/
def dDSetd (dx dy dz : DX) : DX := fun Δ => mbind (dx Δ) fun x => mbind (mDct x) fun _ => mbind (dy Δ) fun y => mbind (dz Δ) fun z s => match x with
  | .obj n => match dctAt s n with
    | some kvs => match keyD y with
      | some k => if kvs.length < sizeLine then (match valD kvs k with
        | some d => some (.ok d, s)
        | none => some (.ok z, s.set n (.dK (putKD kvs k z)))) else none
      | none => none
    | none => none
  | _ => none
theorem de_dsetd {o e f : Expr} {dx dy dz : DX} {apos cpos : Pos} (ho : DE X W o dx) (he : DE X W e dy) (hf : DE X W f dz) (m : M2 X o "setdefault" apos e f cpos := by exact ⟨rfl, rfl, rfl, rfl⟩) : DE X W (.Call (.Attribute o "setdefault" apos) [e, f] [] cpos) (dDSetd dx dy dz) :=
  pe_imp (pe_dsetd ho he hf m) fun σ H Q ⟨Δ, φ, s, hσ, hs, h⟩ => upE_bind hσ hs h fun φ1 v H1 x s1 f1 hσ1 hs1 rx h1 => by
    obtain ⟨⟨a, rfl, d⟩, h2⟩ := mDct_bind hs1 rx h1
    refine ⟨a, rfl, d, upE_bind hσ1 hs1 h2 fun φ2 u H2 y s2 f2 hσ2 hs2 ry h3 => upE_bind hσ2 hs2 h3 fun φ3 w H3 z s3 f3 hσ3 hs3 rz h4 => ?_⟩
    split at h4
    · rename_i n
      have rx3 := (rx.fu f2).fu f3
      cases rx3
      rename_i ha
      split at h4
      · rename_i kvs e1
        split at h4
        · rename_i k e2
          split at h4
          · rename_i hz
            obtain ⟨vs, k1, r⟩ := hs3.dct e1 ha
            obtain ⟨q1, q2⟩ := r.val k
            refine ⟨vs, k, k1, keyD_kV ry e2, by rw [r.length]; exact hz, fun v0 ev => ?_, fun ev => ?_⟩
            · split at h4
              · rename_i d0 e3
                obtain ⟨v1, ev1, rv1⟩ := q1 d0 e3
                rw [ev1] at ev
                cases ev
                exact h4.ok hs3 rv1
              · rename_i e3
                rw [q2 e3] at ev
                cases ev
            · split at h4
              · rename_i d0 e3
                obtain ⟨v1, ev1, rv1⟩ := q1 d0 e3
                rw [ev1] at ev
                cases ev
              · rename_i e3
                have ff : Fu X.K φ3 φ3 H3 (upd H3 a (.dK (putK vs k w))) := fu_set hs3 ha
                exact h4 φ3 _ _ ff (hs3.set (o := .dK (putKD kvs k z)) ha ⟨_, upd_same, (r.put rz).fu ff⟩) (rz.fu ff)
          · exact h4.elim
        · exact h4.elim
      · exact h4.elim
    · exact h4.elim
/-! ### raise C('..'), an own class without an __init__ of its own -/
def dRaiseC (C : Addr) : DS := fun Δ s => some (.ex ⟨C, []⟩ Δ, s)
structure ExcF (K : PySem.W.Frag) (mg : Str → Option Value) (x : Str) (C : Addr) : Prop where
  q : PySem.W.excIn K C [.type "ValueError", .type "Exception", .type "BaseException", .type "object"] "ValueError.__new__" = true
  gC : mg x = some (.ref C)
  kC : PySem.W.keepIn K (.ref C) = true
  b : PySem.W.subIn K (.ref C) (.type "BaseException") = some true
  t : PySem.W.typeIn K (.ref C) = some (.type "type")
theorem ds_raiseC {x m : Str} {C : Addr} {j : Nat} {p p2 pos pos2 : Pos} (T : ExcF X.K X.mg x C) (hc : X.calm = true) (tk : Takes X W) (hg : Gl X x := by rfl) (hdb : (x == ("__debug__" : Str)) = false := by decide) :
    DSt X W (.Raise (some (.Call (.Name x p) [.Constant (.str m) j p2] [] pos)) none pos2) (dRaiseC C) :=
  ps_imp (ps_raise hc tk (pmk_own PySem.F.excBase_ValueError T.q T.gC T.kC (raises_own T.b T.t) hg hdb)) fun D σ H ⟨Δ, φ, s, hσ, hs, h⟩ => h φ σ H (.ref C) none (Fu.refl _ _) hs hσ ⟨rfl, .inl ⟨rfl, rfl⟩⟩
end
end DV

namespace DV
open PySem L2 PyProof.Rows
theorem hu64 {k : Nat} {A : Around} (hr : RoomG k A) : A.units + 64 < cLine := by have := hr.rm.un; omega
theorem hu66 {k : Nat} {A : Around} (hr : RoomG k A) : A.units + 66 < cLine := by have := hr.rm.un; omega
theorem hu1 {k : Nat} {A : Around} (hr : RoomG k A) : A.units + 1 < cLine := by have := hr.rm.un; omega
theorem hu0 {k : Nat} {A : Around} (hr : RoomG k A) : A.units < cLine := by have := hr.rm.un; omega
/-- no turn of a recursion is left -/
theorem fn_none {P : Program} {w : World} {K : PySem.W.Frag} {mg : Str → Option Value} {base : Heap} {k : Nat} {f : Addr} {fd : FuncData} {ps : List Str} : FnG P w K mg base k f fd ps (fun _ _ => none) :=
  ⟨fun A outer s H args us vs Q E _ _ _ _ h => by
    obtain ⟨_, ds, φ, s, _, _, h⟩ := h
    exact h.elim⟩
section
variable {X : Cx} {W : WX}
/-! ### a written dict of ints -/
def kdB : List DictEntry → List (Int × Int) → Bool
  | [], [] => true
  | e :: es, (k, v) :: r => (match e.key, e.val with
    | .int k' _, .int v' _ => k' == k && v' == v && e.hash == hashInt k
    | _, _ => false) && kdB es r
  | _, _ => false
def lookI : List (Int × Int) → Int → Option Int
  | [], _ => none
  | (k, v) :: r, i => if k = i then some v else lookI r i
theorem kdB_keys : ∀ {es : List DictEntry} {kvs : List (Int × Int)}, kdB es kvs = true → ∀ e ∈ es, ∃ k : Key, keyIs k e.key = true ∧ ∀ w, e.hash = keyH w k
  | [], [], _, _, h => by cases h
  | e :: es, (k, v) :: r, h, e', h' => by
    unfold kdB at h
    rw [Bool.and_eq_true] at h
    rcases List.mem_cons.mp h' with rfl | h'
    · obtain ⟨h1, _⟩ := h
      split at h1
      · rename_i k' t v' t' ek ev
        simp only [Bool.and_eq_true, beq_iff_eq] at h1
        obtain ⟨⟨rfl, rfl⟩, eh⟩ := h1
        exact ⟨.inl k', by rw [ek]; exact keyIs_int _ _, fun w => eh⟩
      · cases h1
    · exact kdB_keys h.2 e' h'
theorem kdB_find : ∀ {es : List DictEntry} {kvs : List (Int × Int)} (i : Int), kdB es kvs = true → match lookI kvs i with
    | some v => ∃ t, (es.find? fun e => keyIs (.inl i) e.key).map (·.val) = some (.int v t)
    | none => (es.find? fun e => keyIs (.inl i) e.key).map (·.val) = none
  | [], [], _, _ => rfl
  | e :: es, (k, v) :: r, i, h => by
    unfold kdB at h
    rw [Bool.and_eq_true] at h
    obtain ⟨h1, h2⟩ := h
    split at h1
    · rename_i k' t v' t' ek ev
      simp only [Bool.and_eq_true, beq_iff_eq] at h1
      obtain ⟨⟨rfl, rfl⟩, eh⟩ := h1
      rw [List.find?_cons]
      by_cases hk : k' = i
      · subst hk
        have q : keyIs (.inl k') e.key = true := by rw [ek]; exact keyIs_int _ _
        simp only [lookI, if_true, q, Option.map_some, ev]
        exact ⟨t', rfl⟩
      · have q : keyIs (.inl i) e.key = false := by
          rw [ek]
          show Value.isInt i (.int k' t) = false
          simp only [Value.isInt]
          exact beq_eq_false_iff_ne.mpr (fun z => hk (by first | exact z | exact z.symm))
        simp only [lookI, if_neg hk, q]
        exact kdB_find i h2
    · cases h1
structure KdI (K : PySem.W.Frag) (a : Addr) (kvs : List (Int × Int)) : Prop where
  ex : ∃ es n, K.lookup a = some ⟨.type "dict", none, .dict es n, #[]⟩ ∧ kdB es.toList kvs = true
  ns : (a == sysModules) = false
def dKGet (kvs : List (Int × Int)) (dy : DX) : DX := fun Δ => mbind (dy Δ) fun y s => match y with
  | .int i => match lookI kvs i with
    | some v => some (.ok (.int v), s)
    | none => some (.ok .non, s)
  | _ => none
theorem de_kget {o e : Expr} {a : Addr} {kvs : List (Int × Int)} {dy : DX} {apos cpos : Pos} (T : KdI X.K a kvs) (ho : PE X o (tC (.ref a))) (he : DE X W e dy) (m : M1 X o "get" apos e cpos := by exact ⟨rfl, rfl, rfl, rfl⟩) : DE X W (.Call (.Attribute o "get" apos) [e] [] cpos) (dKGet kvs dy) := by
  refine ⟨fun pins s σ H Q I ⟨Δ, φ, st, hσ, hs, h⟩ => ?_⟩
  obtain ⟨⟨es, n, hk, hd⟩, hns⟩ := T
  refine wpAny_Call_method m.base m.few m.line PySem.F.plainAttrs_dict PySem.F.slot_dict_get PySem.F.type_dict_get (thn (ho.run pins s σ H (fun v H1 => v = .ref a ∧ H1 = H) I ⟨rfl, rfl⟩) fun u s1 ⟨x, H1, I1, rx, ex, eH⟩ => ?_)
  subst ex eH
  obtain rfl : u = Value.ref a := rx
  have ob := I1.kIn a _ hk
  refine ⟨⟨_, ob, rfl⟩, fun b q => by cases q; exact ⟨_, ob, rfl⟩, ?_⟩
  rw [m.trees]
  have hE : upE X.K W dy σ H1 fun y H2 => ∃ i, y = .int i ∧ Q (match lookI kvs i with | some v => .int v | none => .non) H2 :=
    upE_bind hσ hs h fun φ1 v H2 y s2 f1 hσ1 hs1 ry h1 => by
      split at h1
      · cases ry
        rename_i i
        refine ⟨i, rfl, ?_⟩
        split at h1
        · exact h1.ok hs1 (.int _)
        · exact h1.ok hs1 .non
      · exact h1.elim
  refine Calls.callWith_builtin rfl (Calls.evalArgs_plain (Calls.spliced_cons (thn (he.run pins s1 σ H1 _ I1 hE) fun iv s2 ⟨y, H2, I2, ry, i, ey, q2⟩ => Calls.spliced_nil ?_)))
  subst ey
  obtain ⟨t, rfl⟩ := ry
  have ob2 := I2.kIn a _ hk
  have mo : s2.heap.MapOf (mixKind X.prog X.w) a (fun k => findBy (mixKind X.prog X.w).is es k) := ⟨_, es, n, ob2, ⟨rfl, rfl, rfl⟩, rfl, fun e he => by
    obtain ⟨k, k1, k2⟩ := kdB_keys hd e (by simpa using he)
    exact ⟨k, k1, k2 _⟩, fun _ => rfl⟩
  refine call_meetsIn PySem.F.slot_dict_get mo.typeIs PySem.F.entry_dict_get (PySem.F.args_dict_get_2 _ _) (meets_dict_get (mixKind X.prog X.w) a (k := .inl i) (kV_is (k := .inl i) (show ∃ t', Value.int i t = Value.int i t' from ⟨t, rfl⟩)) hns) ⟨_, mo, ?_⟩
  have hf := kdB_find i hd
  have e1 : findBy (mixKind X.prog X.w).is es (.inl i) = (es.toList.find? fun e => keyIs (.inl i) e.key).map (·.val) := by
    unfold findBy
    obtain ⟨l⟩ := es
    rw [List.find?_toArray]
    rfl
  rw [e1]
  cases eL : lookI kvs i with
  | none =>
    rw [eL] at hf q2
    simp only at hf q2
    rw [hf]
    exact ⟨.non, H2, I2.tok _, rfl, q2⟩
  | some v =>
    rw [eL] at hf q2
    simp only at hf q2
    obtain ⟨t', hf⟩ := hf
    rw [hf]
    exact ⟨.int v, H2, I2.tok _, ⟨t', rfl⟩, q2⟩
/-! ### max of a tuple of ints -/
theorem dpAll_ints {K : PySem.W.Frag} {H : Hp} : ∀ ns : List Int, DpAll K H (ns.map V.int) (ns.map PyData.int)
  | [] => .nil
  | i :: r => .cons (.int i) (dpAll_ints r)
theorem foldl_max (a : Int) : ∀ r : List Int, r.foldl max a = r.foldl maxI a := fun r => by
  have e : (fun a b : Int => max a b) = maxI := by
    funext a b
    unfold maxI
    by_cases h : b > a
    · rw [if_pos h]; omega
    · rw [if_neg h]; omega
  show r.foldl (fun a b : Int => max a b) a = _
  rw [e]
def fMaxT : OpN := fun xs s => match xs with
  | [.tup ys] => match intsOf ys with
    | some ns => if 0 < ns.length then some (.int (maxL ns), s) else none
    | none => none
  | _ => none
def rMaxT (K : PySem.W.Frag) : List V → Hp → VK → Prop := fun vs H Q => ∃ (a : Addr) (ns : List Int), vs = [V.ref a] ∧ SqT K H a (ns.map V.int) ∧ 0 < ns.length ∧ Q (.int (maxL ns)) H
theorem cr_maxT (hc : X.calm = true) (hu : X.A.units + 66 < cLine) : CallR X (.builtin "max") (rMaxT X.K) := by
  intro pins s σ H vs us Q I r h
  obtain ⟨a, ns, rfl, hs, hne, q⟩ := h
  obtain ⟨its, rv, hl, _⟩ := I.tuple hs
  rw [Vals.ref1 r]
  cases ns with
  | nil => exact absurd hne (Nat.lt_irrefl 0)
  | cons n r =>
    obtain ⟨as, hr⟩ := Dp.readsAll I _ _ its (dpAll_ints (n :: r)) rv
    have al : PySem.W.AlikeAll ((n :: r).map PyData.int) := ⟨fun x hx y hy => by
      obtain ⟨i, _, rfl⟩ := List.mem_map.mp hx
      obtain ⟨j, _, rfl⟩ := List.mem_map.mp hy
      rfl, fun x hx => by
      obtain ⟨i, _, rfl⟩ := List.mem_map.mp hx
      exact fun z => nomatch z⟩
    have dp : PyData.depthAll ((n :: r).map PyData.int) = 0 := PySem.W.depth_ints (n :: r)
    obtain ⟨o, ho, hcl, m, hd⟩ := hl
    refine PySem.W.max_tuple_data (x := .int n) (xs := r.map .int) (I.ok.hd hc) ⟨o, ho, hcl, m, hd⟩ hr al (by rw [List.map_cons] at dp; rw [dp]; omega) fun i v h' tk bs hv rd hk => ?_
    rw [PySem.W.maxD_ints, foldl_max] at rd
    cases rd
    exact ⟨.int (maxL (n :: r)), H, I.kept hk, ⟨_, rfl⟩, q⟩
theorem dc_maxT (hc : X.calm = true) (hu : X.A.units + 66 < cLine) : DCall X (.builtin "max") fMaxT := ⟨_, cr_maxT hc hu, fun φ H s vs ds Q so rx p => by
  unfold fMaxT at p
  split at p
  · obtain ⟨v, rfl, r⟩ := dts1 rx
    obtain ⟨a, ws, rfl, hq, r⟩ := r.tupI
    split at p
    · rename_i ns e
      split at p
      · rename_i hz
        rw [intsOf_eq e] at r
        rw [r.ints] at hq
        exact ⟨a, ns, rfl, hq, hz, p.ok so (.int _)⟩
      · exact p.elim
    · exact p.elim
  · exact p.elim⟩
def fMaxA : OpN := orN fMax fMaxT
theorem dc_maxA (hc : X.calm = true) (hu : X.A.units + 66 < cLine) : DCall X (.builtin "max") fMaxA := (dc_max hc).or (dc_maxT hc hu)
end
end DV

namespace DV
open PySem L2 PyProof.Rows
section
variable {X : Cx} {W : WX}
/-! ### a, b = x, y -/
def dPar (i j : Nat) (da : DA) : DS := fun Δ => sbind (da Δ) Δ fun xs s => match xs with
  | [x, y] => some (.nx ((Δ.set i (some x)).set j (some y)), s)
  | _ => none
theorem sbA {K : PySem.W.Frag} {D : Ends} {φ : List Addr} {H : Hp} {s : Sto} {σ : L2.St} {Δ : Dn} {da : DA} {k : List DV.D → Sto → RS} {Q : List V → Hp → Prop} (hσ : Sg K φ H σ Δ) (hs : So K φ H s) (h : PsS K W D φ H (sbind (da Δ) Δ k s))
    (q : ∀ φ1 vs H1 ds s1, Fu K φ φ1 H H1 → Sg K φ1 H1 σ Δ → So K φ1 H1 s1 → Dts K φ1 H1 vs ds → PsS K W D φ1 H1 (k ds s1) → Q vs H1) : upA K W da σ H Q :=
  ⟨Δ, φ, s, hσ, hs, Ps.mono (fun φ1 v H1 d s1 z => q φ1 v H1 d s1 z.1 (hσ.fu z.1) z.2.1 z.2.2.1 z.2.2.2) (sb hσ h)⟩
theorem ds_par {i j : Nat} {x y : Str} {a b : Expr} {da : DA} {px py pt pos : Pos} {kt k2 pt2} (hc : X.calm = true) (hN : X.N.Nodup) (ha : DAs X W [a, b] da) (hi : X.N[i]? = some x := by rfl) (hj : X.N[j]? = some y := by rfl) (hij : i ≠ j := by decide)
    (hx : X.env.scope.names.lookup x = some .local := by rfl) (hy : X.env.scope.names.lookup y = some .local := by rfl)
    (hw : swappedStores [.Tuple [.Name x px, .Name y py] kt pt] (.Tuple [a, b] k2 pt2) X.env = pure (some [x, y]) := by rfl)
    (hs : swapsWithSole [.Tuple [.Name x px, .Name y py] kt pt] (.Tuple [a, b] k2 pt2) pos.line X.env = pure false := by rfl) :
    DSt X W (.Assign [.Tuple [.Name x px, .Name y py] kt pt] (.Tuple [a, b] k2 pt2) pos) (dPar i j da) :=
  ps_imp (ps_par hc hN hi hj hij hx hy ha hw hs) fun D σ H ⟨Δ, φ, s, hσ, hs, h⟩ => sbA hσ hs h fun φ1 vs H1 ds s1 f1 hσ1 hs1 rs h1 => by
    split at h1
    · obtain ⟨v, w, rfl, r1, r2⟩ := dts2 rs
      exact ⟨v, w, rfl, h1 φ1 _ _ (Fu.refl _ _) hs1 ((hσ1.set r1 i).set r2 j)⟩
    · exact h1.elim
end
/-! ### the law -/
/-- what law(script) promises: for a list of at most 63 ints the answer is True -/
def spLaw (K : PySem.W.Frag) : Sp := fun vs H Q _ => ∃ (a : Addr) (ns : List Int), vs = [.ref a] ∧ FzL K H a (ns.map V.int) ∧ ns.length ≤ 63 ∧ ∀ H', Q (.bl true) H'
theorem So.none {K : PySem.W.Frag} {H : Hp} : So K [] H [] := ⟨rfl, .nil, fun n o e => by simp at e⟩
theorem FzL.only {K : PySem.W.Frag} {H : Hp} {a : Addr} {vs : List V} (o : Only H) (h : SqL K H a vs) : FzL K H a vs := by
  rcases h with (h | ⟨ob, h⟩) | h
  · rcases o a with z | ⟨ob, xs, z⟩ <;> (rw [z] at h; cases h)
  · exact .inl ⟨ob, h⟩
  · exact .inr (.inr h)
/-- the run over the data says True for every script -/
def AllTrue (fM : FnD) : Prop := ∀ ns : List Int, ns.length ≤ 63 → ∃ s, fM [.fz (ns.map .int)] [] = some (.ok (.bl true), s)
theorem no_exc {P : Program} {w : World} {H : Hp} {s : Shared} {e : Value} {s' : Shared} (h : L2.CX P w [] H s (fun _ _ _ => False) e s') : False := by
  obtain ⟨_, _, _, _, _, _, _, _, _, _, _, _, z⟩ := h
  exact z
/-- the law's call at the top, from its run over the data -/
theorem law_top {P : Program} {w : World} {K : PySem.W.Frag} {mg mb : Str → Option Value} {k : Nat} {fa a : Addr} {fd : FuncData} {x : Str} {fM : FnD} {t : Shared} {vs : List Value} {ns : List Int} (inK : K.In t.heap) (nsM : t.heap.Ns mainGlobals mg) (nsB : t.heap.Ns builtinsNs mb)
    (boot : ∀ y : Str, y ≠ "__name__" → mb y = bootBuiltins y) (lim : t.heap.NoLimit) (noG : t.gens = #[]) (script : t.heap.get? a = some { cls := .type "list", data := .seq vs.toArray }) (hints : IntsAre vs ns) (h63 : ns.length ≤ 63) (hr : RoomG k callerA)
    (F : ∀ base : Heap, K.In base → base.Ns mainGlobals mg → FnG P w K mg base k fa fd [x] fM) (bind : ∀ (s : Shared) (u : Value), BindsTo s fd ⟨[u], []⟩ [(x, u)]) (hT : AllTrue fM) :
    codeAny (model P w) callerA (.call (.ref fa) ⟨[.ref a], []⟩) (fun r t2 => r = .ok (.ret (.bool true)) ∧ OldK t.heap t2.heap ∧ t2.os = t.os ∧ AllBare t2.gens) t := by
  have vals := vals_ints hints
  have small : ns.length ≤ sizeLine := Nat.le_of_lt (small1000 (by omega))
  -- H tracks the script at most
  have run : ∀ H : Hp, (∀ b, H b = none ∨ ∃ ob xs, H b = some (.frz ob (.lst xs))) → FzL K H a (ns.map V.int) → HOk P w H t.heap → (∀ b, H b ≠ none → b = a) → (H a ≠ none → K.lookup a = none) →
      codeAny (model P w) callerA (.call (.ref fa) ⟨[.ref a], []⟩) (fun r t2 => r = .ok (.ret (.bool true)) ∧ OldK t.heap t2.heap ∧ t2.os = t.os ∧ AllBare t2.gens) t := fun H only fz hok alone free => by
    have untracked : ∀ {b : Addr} {o : Obj}, t.heap.get? b = some o → (b = a → H a = none) → (hidT t.heap H).get? b = some o := fun {b o} e n => hidT_get e (by
      cases q : H b with
      | none => rfl
      | some u =>
        have z := alone b (by rw [q]; simp)
        rw [z] at q
        rw [n z] at q
        cases q)
    have dicts : ∀ {b : Addr} {m : Str → Option Value}, t.heap.Ns b m → (hidT t.heap H).Ns b m := fun {b m} ⟨o, es, ep, e, d, r⟩ => ⟨o, es, ep, untracked e (fun z => by
      subst z
      rw [script] at e
      cases e
      cases (show Data.seq vs.toArray _ = Data.dict es ep from d)), d, r⟩
    have inB : K.In (hidT t.heap H) := fun b o e => untracked (inK b o e) (fun z => by
      subst z
      cases q : H b with
      | none => rfl
      | some u => rw [free (by rw [q]; simp)] at e; cases e)
    obtain ⟨ml, l1, l2⟩ := lim
    have md : Mod K mg (hidT t.heap H) := ⟨inB, dicts nsM, ⟨mb, dicts nsB, boot⟩, ⟨ml, dicts l1, l2⟩⟩
    have env0 : Env0 P w K mg (hidT t.heap H) callerA [] t H := ⟨rfl, md, fun b o e => of_hidT e, Nat.le_of_eq (hidT_size _ _), trivial, fun b hb => absurd hb (by simp [frs]), hok, .of_eq noG⟩
    obtain ⟨s', hs⟩ := hT ns h63
    have sp : spD K 1 fM [.ref a] H (fun v _ => v = .bl true) fun _ _ _ => False := by
      refine ⟨rfl, [.fz (ns.map .int)], [], [], .cons (.fz fz (Dts.of_ints ns)) .nil, So.none, ?_⟩
      rw [hs]
      intro φ v H' _ _ rv
      cases rv
      rfl
    refine codeAny_mono ((F _ inB (dicts nsM)).run callerA [] t H ⟨[.ref a], []⟩ [.ref a] [.ref a] (fun v _ => v = .bl true) (fun _ _ _ => False) hr env0 (bind t (.ref a)) (.cons rfl .nil) sp) fun r t2 h => ?_
    cases r with
    | error e => exact (no_exc h).elim
    | ok fl => cases fl with
      | next => exact h.elim
      | brk => exact h.elim
      | cont => exact h.elim
      | ret u =>
        obtain ⟨v, H', os, bare, un, hok', rv, ev⟩ := h
        have ev' : v = .bl true := ev
        subst ev'
        obtain rfl : u = Value.bool true := rv
        refine ⟨rfl, OldK.of_keep fun b o e => ?_, os, bare⟩
        rcases only b with z | ⟨ob, xs, z⟩
        · exact un.keep b o e z (fun y => absurd y (by simp [frs])) (by simp)
        · obtain ⟨e1, _⟩ := hok b _ z
          obtain ⟨e2, _⟩ := hok' b _ (un.frzs b ob _ z)
          rw [e] at e1
          cases e1
          exact e2
  cases lk : K.lookup a with
  | some o =>
    have e := inK a o lk
    rw [script] at e
    cases e
    exact run (fun _ => none) (fun _ => .inl rfl) (.inr (.inr ⟨_, vs.toArray, _, lk, rfl, rfl, rfl, by rw [List.size_toArray, hints.length]; exact small, by simpa using vals⟩)) (fun b u z => by cases (show (none : Option HO) = some u from z)) (fun b z => absurd rfl z) fun z => absurd rfl z
  | none =>
    refine run (fun b => if b = a then some (.frz { cls := .type "list", data := .seq vs.toArray } (.lst (ns.map V.int))) else none) (fun b => ?_) (.inl ⟨_, if_pos rfl⟩) (fun b u z => ?_) (fun b z => ?_) fun _ => lk
    · by_cases hb : b = a
      · exact .inr ⟨_, _, if_pos hb⟩
      · exact .inl (if_neg hb)
    · by_cases hb : b = a
      · subst hb
        cases (if_pos rfl).symm.trans z
        exact ⟨script, by rw [List.length_map]; exact small, vs, _, vals, script⟩
      · cases (if_neg hb).symm.trans z
    · by_cases hb : b = a
      · exact hb
      · exact absurd (if_neg hb) z
/-- the goal at the law's head, from its run over the data -/
theorem walk_top {l : PySem.W.OpenLaw} {k : Nat} {q : Program} {loose : List Str} {XP : (Str → Option Value) → Heap → Prop} {YP : World → Heap → Prop} {d : DefRec} {K : Params → PySem.W.Frag} {x : Str} (hn : l.most = some 63) (hdf : d.params.defaults = []) (hr : RoomG k callerA)
    (hY : ∀ (w : World) (h : Heap), YP w h → (K w.params).In h)
    (F : ∀ (w : World) (mg : Str → Option Value) (fa : Addr) (h : Heap), (K w.params).In h → h.Ns mainGlobals mg → mg d.name = some (.ref fa) →
      ∃ (fd : FuncData) (fM : FnD), AllTrue fM ∧ (∀ (s : Shared) (u : Value), BindsTo s fd ⟨[u], []⟩ [(x, u)]) ∧ ∀ base : Heap, (K w.params).In base → base.Ns mainGlobals mg → FnG l.prog w (K w.params) mg base k fa fd [x] fM) :
    PySem.W.WalkO q loose XP YP l.row.toRowW d [] (fun f vs => PySem.call f vs) := by
  refine Att.attach_call hn hdf fun w s₀ t mg mb fa o pm cd doc a vs ns G Y _ _ _ hmg hobj hints hlen noG => ?_
  have inK := hY w _ Y
  obtain ⟨fd, fM, hT, hbd, hF⟩ := F w mg fa _ inK G.T.g hmg
  exact law_top inK G.T.g G.T.b G.T.builtins G.T.nolimit noG hobj hints hlen hr hF hbd hT
end DV

namespace DV
open PySem L2 PyProof.Rows
/-! ### keywords: which of the given values stands at which parameter -/
def pickL {α : Type} (ix : List Nat) (l : List α) : List α := ix.filterMap fun i => l[i]?
theorem pick_len {α : Type} {l : List α} : ∀ {ix : List Nat}, (∀ i ∈ ix, i < l.length) → (pickL ix l).length = ix.length
  | [], _ => rfl
  | i :: r, h => by
    have hi := h i (by simp)
    have ih := pick_len (ix := r) fun j hj => h j (by simp [hj])
    unfold pickL at ih ⊢
    rw [List.filterMap_cons, List.getElem?_eq_getElem hi]
    simp [ih]
theorem pick_vals {vs : List V} {us : List Value} (r : Vals vs us) : ∀ ix : List Nat, (∀ i ∈ ix, i < vs.length) → Vals (pickL ix vs) (pickL ix us)
  | [], _ => .nil
  | i :: q, h => by
    have hi := h i (by simp)
    obtain ⟨u, hu, rv⟩ := r.get (List.getElem?_eq_getElem hi)
    have ih := pick_vals r q fun j hj => h j (by simp [hj])
    unfold pickL at ih ⊢
    rw [List.filterMap_cons, List.filterMap_cons, List.getElem?_eq_getElem hi, hu]
    exact .cons rv ih
theorem pick_dts {K : PySem.W.Frag} {φ : List Addr} {H : Hp} {vs : List V} {ds : List D} (r : Dts K φ H vs ds) : ∀ ix : List Nat, (∀ i ∈ ix, i < vs.length) → Dts K φ H (pickL ix vs) (pickL ix ds)
  | [], _ => .nil
  | i :: q, h => by
    have hi := h i (by simp)
    obtain ⟨d, hd, rd⟩ := r.get' (List.getElem?_eq_getElem hi)
    have ih := pick_dts r q fun j hj => h j (by simp [hj])
    unfold pickL at ih ⊢
    rw [List.filterMap_cons, List.filterMap_cons, List.getElem?_eq_getElem hi, hd]
    exact .cons rd ih
/-- the def takes n values and then the keywords ks: ix tells the place of each parameter's value among them -/
structure KB (K : PySem.W.Frag) (fd : FuncData) (ps : List Str) (n : Nat) (ks : List Str) (ix : List Nat) : Prop where
  to : ∀ (s : Shared) (us ws : List Value), K.In s.heap → us.length = n → ws.length = ks.length → BindsTo s fd ⟨us, ks.zip ws⟩ (ps.zip (pickL ix (us ++ ws)))
  lt : ∀ i ∈ ix, i < n + ks.length
  ln : ix.length = ps.length
section
variable {X : Cx} {W : WX} {k n m : Nat} {f C : Addr} {fd : FuncData} {ps ks : List Str} {ix : List Nat} {fM : FnD} {x : Str} {p pos apos : Pos} {e o : Expr} {es : List Expr} {kws : List Keyword} {da dk : DA}
def DKs (X : Cx) (W : WX) (kws : List Keyword) (da : DA) : Prop := PK X kws (upA X.K W da)
theorem pk_imp {t t' : TA} (h : PK X kws t) (f : ∀ σ H Q, t' σ H Q → t σ H Q) : PK X kws t' := ⟨fun pos pins s σ H Q I q => h.run pos pins s σ H Q I (f _ _ _ q)⟩
theorem dk_nil : DKs X W [] dNil := pk_imp pk_nil fun σ H Q ⟨Δ, φ, s, hσ, hs, h⟩ => h.ok hs .nil
theorem dk_cons {nm : Option Str} {kpos : Pos} {de : DX} {dr : DA} (ha : DE X W e de) (hr : DKs X W kws dr) : DKs X W (⟨nm, e, kpos⟩ :: kws) (dCons de dr) :=
  pk_imp (pk_cons ha hr) fun σ H Q ⟨Δ, φ, s, hσ, hs, h⟩ => upE_bind hσ hs h fun φ1 v H1 x s1 f1 hσ1 hs1 rx h1 => upA_bind hσ1 hs1 h1 fun φ2 vs H2 xs s2 f2 hσ2 hs2 rs h2 => h2.ok hs2 (.cons (rx.fu f2) rs)
/-- the callee's run behind the choice -/
def kwN (n m : Nat) (ix : List Nat) (fM : FnD) (xs zs : List D) : M D := fun s => if xs.length = n ∧ zs.length = m then fM (pickL ix (xs ++ zs)) s else none
theorem kwN_len {K : PySem.W.Frag} {E : WK} {φ : List Addr} {H : Hp} {s : Sto} {xs zs : List D} {Cc : List Addr → V → Hp → D → Sto → Prop} (h : Ps K E (Dt K) φ H Cc (kwN n m ix fM xs zs s)) : xs.length = n ∧ zs.length = m ∧ Ps K E (Dt K) φ H Cc (fM (pickL ix (xs ++ zs)) s) := by
  unfold kwN at h
  split at h
  · rename_i z; exact ⟨z.1, z.2, h⟩
  · exact h.elim
theorem run_fnKw {pins : List (Addr × Obj)} {σ : L2.St} {H : Hp} {s : Shared} {Q : VK} {us ws : List Value} {vs zs : List V} {φ : List Addr} {st : Sto} {xs ys : List D} (F : FnX X k f fd ps fM) (hr : RoomG k X.A) (hb : KB X.K fd ps n ks ix) (tk : Takes X W)
    (I : Inv X pins σ H s) (r : Vals vs us) (rz : Vals zs ws) (so : So X.K φ H st) (rx : Dts X.K φ H vs xs) (ry : Dts X.K φ H zs ys) (l1 : xs.length = n) (l2 : ys.length = ks.length) (h : Ps X.K (wAt W σ) (Dt X.K) φ H (fun _ v H' _ _ => Q v H') (fM (pickL ix (xs ++ ys)) st)) :
    wpAny (model X.prog X.w) X.A (call (.ref f) us (ks.zip ws)) (EP X pins σ Q) X.xe s := by
  have hlt : ∀ i ∈ ix, i < (vs ++ zs).length := fun i hi => by
    have := hb.lt i hi
    rw [List.length_append, rx.length, ry.length, l1, l2]
    exact this
  have r2 := pick_vals (r.append rz) ix hlt
  have rd := pick_dts (rx.append ry) ix hlt
  have hl : (pickL ix (vs ++ zs)).length = ps.length := (pick_len hlt).trans hb.ln
  refine wpAny_call (codeAny_mono (F.run X.A X.stack s H ⟨us, ks.zip ws⟩ (pickL ix (us ++ ws)) (pickL ix (vs ++ zs)) Q (WE W σ) hr I.env0 (hb.to s us ws I.kIn (by rw [← r.length, rx.length, l1]) (by rw [← rz.length, ry.length, l2])) r2 ⟨hl, _, φ, st, rd, so, h⟩) fun r s' hq => ?_)
  cases r with
  | error e => exact passAt tk σ pins H s e s' I hq
  | ok fl =>
    cases fl with
    | ret u => exact I.after hq
    | next => exact False.elim hq
    | brk => exact False.elim hq
    | cont => exact False.elim hq
def dClK (n m : Nat) (ix : List Nat) (fM : FnD) (da dk : DA) : DX := fun Δ => mbind (da Δ) fun xs => mbind (dk Δ) fun zs => kwN n m ix fM xs zs
/-- f(k = v, ..) -/
theorem de_callK0 (F : FnX X k f fd ps fM) (hr : RoomG k X.A) (hm : X.mg x = some (.ref f)) (hk : PySem.W.keepIn X.K (.ref f) = true) (hb : KB X.K fd ps 0 ks ix) (tk : Takes X W) (hkw : DKs X W kws dk) (hg : Gl X x := by rfl) (hl : ks.length = m := by rfl)
    (hall : (backToKw pos (keywordEach kws X.env)).all (·.1.isSome) = true := by rfl) (hks : (backToKw pos (keywordEach kws X.env)).filterMap (·.1) = ks := by rfl) (hdb : (x == ("__debug__" : Str)) = false := by decide)
    (hpl : ((backTo pos (starEach [] X.env)).any (·.1) || (backToKw pos (keywordEach kws X.env)).any (·.1.isNone)) = false := by rfl) :
    DE X W (.Call (.Name x p) [] kws pos) (dClK 0 m ix fM dNil dk) := by
  subst hl
  refine ⟨fun pins s σ H Q I ⟨Δ, φ, st, hσ, hs, h⟩ => wpAny_Call_Name_kw (ld_glob I hg hm ?_ hdb)⟩
  have hA : upA X.K W dk σ H fun zs H2 => ∃ φ2 ys s2, So X.K φ2 H2 s2 ∧ Dts X.K φ2 H2 zs ys ∧ Ps X.K (wAt W σ) (Dt X.K) φ2 H2 (fun _ v H' _ _ => Q v H') (kwN 0 ks.length ix fM [] ys s2) :=
    upA_bind hσ hs h fun φ1 zs H1 ys s1 f1 hσ1 hs1 rs h1 => ⟨φ1, ys, s1, hs1, rs, h1⟩
  refine PySem.W.callWith_KW0 (h₀ := X.base) I.ok.mod.kin hk hall ?_ hpl
  refine thn (hkw.run pos pins s σ H _ I hA) fun ws t2 ⟨zs, H2, I2, rz, φ2, ys, s2, so2, ry, h2⟩ => ⟨I2.kIn, ?_⟩
  rw [hks]
  obtain ⟨l1, l2, h3⟩ := kwN_len h2
  exact run_fnKw (us := []) (vs := []) F hr hb tk I2 .nil rz so2 .nil ry l1 l2 h3
/-- f(e, .., k = v, ..) -/
theorem de_callK (F : FnX X k f fd ps fM) (hr : RoomG k X.A) (hm : X.mg x = some (.ref f)) (hk : PySem.W.keepIn X.K (.ref f) = true) (hb : KB X.K fd ps n ks ix) (tk : Takes X W) (ha : DAs X W (e :: es) da) (hkw : DKs X W kws dk) (hg : Gl X x := by rfl) (hl : ks.length = m := by rfl)
    (hall : (backToKw pos (keywordEach kws X.env)).all (·.1.isSome) = true := by rfl) (hks : (backToKw pos (keywordEach kws X.env)).filterMap (·.1) = ks := by rfl) (hdb : (x == ("__debug__" : Str)) = false := by decide)
    (he : starEach (e :: es) X.env = (false, eval e X.env) :: starEach es X.env := by rfl) (hpl : ((backTo pos (starEach (e :: es) X.env)).any (·.1) || (backToKw pos (keywordEach kws X.env)).any (·.1.isNone)) = false := by rfl) :
    DE X W (.Call (.Name x p) (e :: es) kws pos) (dClK n m ix fM da dk) := by
  subst hl
  refine ⟨fun pins s σ H Q I ⟨Δ, φ, st, hσ, hs, h⟩ => wpAny_Call_Name_kw (ld_glob I hg hm ?_ hdb)⟩
  have hA : upA X.K W da σ H fun vs H1 => ∃ φ1 xs s1, Sg X.K φ1 H1 σ Δ ∧ So X.K φ1 H1 s1 ∧ Dts X.K φ1 H1 vs xs ∧ Ps X.K (wAt W σ) (Dt X.K) φ1 H1 (fun _ v H' _ _ => Q v H') (mbind (dk Δ) (fun zs => kwN n ks.length ix fM xs zs) s1) :=
    upA_bind hσ hs h fun φ1 vs H1 xs s1 f1 hσ1 hs1 rs h1 => ⟨φ1, xs, s1, hσ1, hs1, rs, h1⟩
  refine PySem.W.callWith_KW (h₀ := X.base) I.ok.mod.kin hk hall (thn (ha.run pos pins s σ H _ I hA) fun us t1 ⟨vs, H1, I1, r, φ1, xs, s1, hσ1, hs1, rs, h1⟩ => ?_) hpl he
  have hB : upA X.K W dk σ H1 fun zs H2 => ∃ φ2 ys s2, So X.K φ2 H2 s2 ∧ Dts X.K φ2 H2 vs xs ∧ Dts X.K φ2 H2 zs ys ∧ Ps X.K (wAt W σ) (Dt X.K) φ2 H2 (fun _ v H' _ _ => Q v H') (kwN n ks.length ix fM xs ys s2) :=
    upA_bind hσ1 hs1 h1 fun φ2 zs H2 ys s2 f2 hσ2 hs2 rz h2 => ⟨φ2, ys, s2, hs2, rs.fu f2, rz, h2⟩
  refine thn (hkw.run pos pins t1 σ H1 _ I1 hB) fun ws t2 ⟨zs, H2, I2, rz, φ2, ys, s2, so2, rx, ry, h2⟩ => ⟨I2.kIn, ?_⟩
  rw [hks]
  obtain ⟨l1, l2, h3⟩ := kwN_len h2
  exact run_fnKw F hr hb tk I2 r rz so2 rx ry l1 l2 h3
/-- o.m(k = v, ..) -/
def dMeK (C : Addr) (mn : Str) (m : Nat) (ix : List Nat) (fM : FnD) (dx : DX) (dk : DA) : DX := fun Δ => mbind (dx Δ) fun x => mbind (mIns C mn x) fun _ => mbind (dk Δ) fun zs => kwN 1 m ix fM [x] zs
theorem de_methK0 {mn : Str} {dx : DX} {pl : Sem Bool} (he : DE X W o dx) (c : Cls X.K C) (hm : Meth X.K C mn f) (F : FnX X k f fd ps fM) (hr : RoomG k X.A) (hb : KB X.K fd ps 1 ks ix) (tk : Takes X W) (hkw : DKs X W kws dk) (hl : ks.length = m := by rfl)
    (hall : (backToKw pos (keywordEach kws X.env)).all (·.1.isSome) = true := by rfl) (hks : (backToKw pos (keywordEach kws X.env)).filterMap (·.1) = ks := by rfl)
    (hpl : ((backTo pos (starEach [] X.env)).any (·.1) || (backToKw pos (keywordEach kws X.env)).any (·.1.isNone)) = false := by rfl)
    (ht : eval (.Call (.Attribute o mn apos) [] kws pos) X.env = (do let ov ← eval o X.env; standAt apos.atName; let (f, first) ← holding [ov] (getMethod ov mn pl); callWith pos f first (backTo pos (starEach [] X.env)) (backToKw pos (keywordEach kws X.env))) := by rfl) :
    DE X W (.Call (.Attribute o mn apos) [] kws pos) (dMeK C mn m ix fM dx dk) := by
  subst hl
  refine ⟨fun pins s σ H Q I ⟨Δ, φ, st, hσ, hs, h⟩ => ?_⟩
  have hE : upE X.K W dx σ H fun v H1 => ∃ φ1 x s1, Sg X.K φ1 H1 σ Δ ∧ So X.K φ1 H1 s1 ∧ Dt X.K φ1 H1 v x ∧ Ps X.K (wAt W σ) (Dt X.K) φ1 H1 (fun _ v H' _ _ => Q v H') (mbind (mIns C mn x) (fun _ => mbind (dk Δ) fun zs => kwN 1 ks.length ix fM [x] zs) s1) :=
    upE_bind hσ hs h fun φ1 v H1 x s1 f1 hσ1 hs1 rx h1 => ⟨φ1, x, s1, hσ1, hs1, rx, h1⟩
  refine PySem.W.methodCall_KW (pl := pl) (thn (he.run pins s σ H _ I hE) fun u t1 ⟨v, H1, I1, rv, φ1, x, s1, hσ1, hs1, rx, h1⟩ => ?_) ht
  obtain ⟨⟨a, dxx, fs, rfl, ea, lk⟩, h2⟩ := mIns_bind hs1 rx h1
  obtain rfl : u = Value.ref a := rv
  refine getmeth_ok I1 ea c hm lk ?_
  have hA : upA X.K W dk σ H1 fun zs H2 => ∃ φ2 ys s2, So X.K φ2 H2 s2 ∧ Dt X.K φ2 H2 (.ref a) x ∧ Dts X.K φ2 H2 zs ys ∧ Ps X.K (wAt W σ) (Dt X.K) φ2 H2 (fun _ v H' _ _ => Q v H') (kwN 1 ks.length ix fM [x] ys s2) :=
    upA_bind hσ1 hs1 h2 fun φ2 zs H2 ys s2 f2 hσ2 hs2 rs h3 => ⟨φ2, ys, s2, hs2, rx.fu f2, rs, h3⟩
  refine PySem.W.callWith_KW0 (first := [Value.ref a]) (h₀ := X.base) I1.ok.mod.kin hm.kp hall ?_ hpl
  refine thn (hkw.run pos pins t1 σ H1 _ I1 hA) fun ws t2 ⟨zs, H2, I2, rz, φ2, ys, s2, so2, rx2, ry, h3⟩ => ⟨I2.kIn, ?_⟩
  rw [hks]
  obtain ⟨l1, l2, h4⟩ := kwN_len h3
  exact run_fnKw (us := [Value.ref a]) (vs := [V.ref a]) F hr hb tk I2 (.cons rfl .nil) rz so2 (.cons rx2 .nil) ry l1 l2 h4
/-- the keywords' places, shown by the def's own binding -/
theorem kb_of {K : PySem.W.Frag} {fd : FuncData} {ps : List Str} {n : Nat} {ks : List Str} {ix : List Nat} (h : ∀ (s : Shared) (us ws : List Value), us.length = n → ws.length = ks.length → BindsTo s fd ⟨us, ks.zip ws⟩ (ps.zip (pickL ix (us ++ ws)))) (lt : ∀ i ∈ ix, i < n + ks.length) (ln : ix.length = ps.length) : KB K fd ps n ks ix :=
  ⟨fun s us ws _ l1 l2 => h s us ws l1 l2, lt, ln⟩
end
end DV

namespace DV
open PySem L2 PyProof.Rows
section
variable {X : Cx} {W : WX} {k m : Nat} {f C : Addr} {fd : FuncData} {ps ks : List Str} {ix : List Nat} {fM : FnD} {x : Str} {p pos : Pos} {kws : List Keyword} {dk : DA}
/-- __init__'s run behind the choice of the keywords -/
def ixN1 (n m : Nat) (ix : List Nat) (fM : FnD) : FnD := fun xs s => if xs.length = n + m then fM (pickL ix xs) s else none
theorem run_mkK {pins : List (Addr × Obj)} {σ : L2.St} {H : Hp} {t : Shared} {Q : VK} {ws : List Value} {zs : List V} {ys : List D} {φ : List Addr} {s : Sto} (Mc : Mk X.K C f) (F : FnX X k f fd ps fM) (hr : RoomG (k + 1) X.A) (hb : KB X.K fd ps 1 ks ix) (tk : Takes X W)
    (I : Inv X pins σ H t) (rz : Vals zs ws) (so : So X.K φ H s) (ry : Dts X.K φ H zs ys) (h : Ps X.K (wAt W σ) (Dt X.K) φ H (fun _ v H' _ _ => Q v H') (mMk C (ixN1 1 ks.length ix fM) ys s)) : wpAny (model X.prog X.w) X.A (call (.ref C) [] (ks.zip ws)) (EP X pins σ Q) X.xe t := by
  have I2 := Inv.made (C := C) I
  generalize ex : t.heap.objs.size + 1 = a at I2
  generalize ed : t.heap.objs.size = dx at I2 ex
  have hdx : H dx = none := I.hok.fresh (Nat.le_of_eq ed)
  have ha : H a = none := I.hok.fresh (by omega)
  have hne : a ≠ dx := by omega
  have so1 : So X.K φ (upd H dx (.own a)) s := so.new hdx
  have ha1 : upd H dx (.own a) a = none := by rw [upd_ne hne]; exact ha
  have f1 : Fu X.K φ φ H (upd H dx (.own a)) := fu_new hdx
  have f2 : Fu X.K φ (φ ++ [a]) (upd H dx (.own a)) (upd (upd H dx (.own a)) a (.ins C dx [])) := fu_newO ha1
  have so2 : So X.K (φ ++ [a]) (upd (upd H dx (.own a)) a (.ins C dx [])) (s ++ [.ins C []]) := so1.newO ha1 ⟨dx, [], upd_same, .nil⟩
  have ra : Dt X.K (φ ++ [a]) (upd (upd H dx (.own a)) a (.ins C dx [])) (.ref a) (.obj s.length) := obj_new so1
  have rs : Dts X.K (φ ++ [a]) (upd (upd H dx (.own a)) a (.ins C dx [])) (.ref a :: zs) (.obj s.length :: ys) := .cons ra ((ry.fu f1).fu f2)
  have hq : ys.length + 1 = 1 + ks.length ∧ Ps X.K (wAt W σ) (Dt X.K) (φ ++ [a]) (upd (upd H dx (.own a)) a (.ins C dx [])) (fun ψ v H' d s' => v = .non ∧ Q (.ref a) H') (fM (pickL ix (.obj s.length :: ys)) (s ++ [.ins C []])) := by
    unfold mMk ixN1 at h
    by_cases z : (D.obj s.length :: ys).length = 1 + ks.length
    · rw [if_pos z] at h
      refine ⟨by simpa using z, ?_⟩
      cases e : fM (pickL ix (.obj s.length :: ys)) (s ++ [.ins C []]) with
      | none => rw [e] at h; exact h.elim
      | some p =>
        obtain ⟨q, s'⟩ := p
        rw [e] at h
        cases q with
        | error x => exact h.shift (f1.trans f2)
        | ok d =>
          cases d <;> first | exact h.elim | skip
          intro ψ v H' f3 so3 rv
          cases rv
          exact ⟨rfl, h ψ (.ref a) H' ((f1.trans f2).trans f3) so3 (ra.fu f3)⟩
    · rw [if_neg z] at h
      exact h.elim
  obtain ⟨hl, hq⟩ := hq
  have l2 : ys.length = ks.length := by omega
  have hlt : ∀ i ∈ ix, i < (V.ref a :: zs).length := fun i hi => by
    have := hb.lt i hi
    rw [List.length_cons, ry.length]
    omega
  have r2 := pick_vals (vs := V.ref a :: zs) (us := Value.ref a :: ws) (.cons rfl rz) ix hlt
  have rd := pick_dts rs ix hlt
  have hv : (pickL ix (V.ref a :: zs)).length = ps.length := (pick_len hlt).trans hb.ln
  have bb := hb.to _ [Value.ref a] ws I2.kIn rfl (by rw [← rz.length, ry.length, l2])
  refine wpAny_call (make_map (f := f) I.kIn Mc.makes Mc.init (beq_iff_eq.mp Mc.fn) ?_)
  rw [ed, ex]
  refine codeAny_mono (F.run _ X.stack _ _ ⟨[Value.ref a], ks.zip ws⟩ (pickL ix (Value.ref a :: ws)) (pickL ix (V.ref a :: zs)) (fun v H2 => v = .non ∧ Q (.ref a) H2) (WE W σ) (hr.make C [] (ks.zip ws)) (I2.env0.make C [] (ks.zip ws)) bb r2 ⟨hv, _, _, _, rd, so2, hq⟩) fun q s' hq' => ?_
  cases q with
  | error e => exact passAt tk σ pins _ _ e s' I2 hq'
  | ok fl =>
    cases fl with
    | ret u =>
      obtain ⟨v, H', I3, rv, ev, q3⟩ := I2.after hq'
      cases ev
      exact ⟨rv, V.ref a, H', I3, rfl, q3⟩
    | next => exact hq'.elim
    | brk => exact hq'.elim
    | cont => exact hq'.elim
/-- C(k = v, ..) -/
theorem de_makeK0 (Mc : Mk X.K C f) (F : FnX X k f fd ps fM) (hr : RoomG (k + 1) X.A) (hm : X.mg x = some (.ref C)) (hb : KB X.K fd ps 1 ks ix) (tk : Takes X W) (hkw : DKs X W kws dk) (hg : Gl X x := by rfl) (hl : ks.length = m := by rfl)
    (hall : (backToKw pos (keywordEach kws X.env)).all (·.1.isSome) = true := by rfl) (hks : (backToKw pos (keywordEach kws X.env)).filterMap (·.1) = ks := by rfl) (hdb : (x == ("__debug__" : Str)) = false := by decide)
    (hpl : ((backTo pos (starEach [] X.env)).any (·.1) || (backToKw pos (keywordEach kws X.env)).any (·.1.isNone)) = false := by rfl) :
    DE X W (.Call (.Name x p) [] kws pos) (dMk C (ixN1 1 m ix fM) dk) := by
  subst hl
  refine ⟨fun pins s σ H Q I ⟨Δ, φ, st, hσ, hs, h⟩ => wpAny_Call_Name_kw (ld_glob I hg hm ?_ hdb)⟩
  have hA : upA X.K W dk σ H fun zs H2 => ∃ φ2 ys s2, So X.K φ2 H2 s2 ∧ Dts X.K φ2 H2 zs ys ∧ Ps X.K (wAt W σ) (Dt X.K) φ2 H2 (fun _ v H' _ _ => Q v H') (mMk C (ixN1 1 ks.length ix fM) ys s2) :=
    upA_bind hσ hs h fun φ1 zs H1 ys s1 f1 hσ1 hs1 rs h1 => ⟨φ1, ys, s1, hs1, rs, h1⟩
  refine PySem.W.callWith_KW0 (h₀ := X.base) I.ok.mod.kin Mc.kp hall ?_ hpl
  refine thn (hkw.run pos pins s σ H _ I hA) fun ws t2 ⟨zs, H2, I2, rz, φ2, ys, s2, so2, ry, h2⟩ => ⟨I2.kIn, ?_⟩
  rw [hks]
  exact run_mkK Mc F hr hb tk I2 rz so2 ry h2
end
end DV

namespace DV
open PySem L2 PyProof.Rows
theorem hgd {k : Nat} {A : Around} (hr : RoomG k A) : A.guards = some [] := hr.gd
section
variable {X : Cx} {W : WX}
/-- may be shown: ints of some size, no dict, not too deep, not too long -/
def shOk (p : PyData) : Bool := p.showable && !p.hasDict && decide (p.depth ≤ 64) && decide (p.shown.length ≤ sizeLine)
/-- repr(x) of plain data -/
def fRepr : OpN := fun xs s => match xs with
  | [x] => match toPy s 64 x with
    | some p => if shOk p = true then some (.str p.shown, s) else none
    | none => none
  | _ => none
def rRepr (K : PySem.W.Frag) : List V → Hp → VK → Prop := fun vs H Q => ∃ v p, vs = [v] ∧ Dp K H v p ∧ shOk p = true ∧ Q (.str p.shown) H
theorem cr_repr (hg : X.A.guards = some []) (hu : X.A.units + 66 < cLine) : CallR X (.builtin "repr") (rRepr X.K) := by
  intro pins s σ H vs us Q I r h
  obtain ⟨v, p, rfl, hd, ok, q⟩ := h
  obtain ⟨u, rfl, rv⟩ := vals1 r
  unfold shOk at ok
  simp only [Bool.and_eq_true, Bool.not_eq_true', decide_eq_true_eq] at ok
  obtain ⟨⟨⟨o1, o2⟩, o3⟩, o4⟩ := ok
  cases hd with
  | non =>
    cases rv
    exact PySem.P.repr_of_none ⟨.str _, H, I.tok _, ⟨_, rfl⟩, q⟩
  | bl b =>
    cases rv
    exact PySem.P.repr_of_bool ⟨.str _, H, I.tok _, ⟨_, rfl⟩, q⟩
  | int i =>
    obtain ⟨t, rfl⟩ := rv
    exact PySem.P.repr_of_int (by simpa [PyData.showable] using o1) ⟨.str _, H, I.tok _, ⟨_, rfl⟩, q⟩
  | str x =>
    obtain ⟨t, rfl⟩ := rv
    exact PySem.P.repr_of_str ⟨.str _, H, I.tok _, ⟨_, rfl⟩, q⟩ o4
  | lst hs ha =>
    rename_i a xs ds
    obtain ⟨as, rd⟩ := Dp.reads I (.list ds) (.ref a) u (.lst hs ha) rv
    obtain rfl : u = Value.ref a := rv
    exact repr_of_reads' rd o1 (PyData.noDict_hsm o2) hg (by omega) (fun _ _ e => e) (fun h' t tk hk => ⟨.str _, H, I.kept hk, ⟨_, rfl⟩, q⟩) o4
  | tup hs ha =>
    rename_i a xs ds
    obtain ⟨as, rd⟩ := Dp.reads I (.tuple ds) (.ref a) u (.tup hs ha) rv
    obtain rfl : u = Value.ref a := rv
    exact repr_of_reads' rd o1 (PyData.noDict_hsm o2) hg (by omega) (fun _ _ e => e) (fun h' t tk hk => ⟨.str _, H, I.kept hk, ⟨_, rfl⟩, q⟩) o4
theorem dc_repr (hg : X.A.guards = some []) (hu : X.A.units + 66 < cLine) : DCall X (.builtin "repr") fRepr := ⟨_, cr_repr hg hu, fun φ H s vs ds Q so rx p => by
  unfold fRepr at p
  split at p
  · obtain ⟨v, rfl, r⟩ := dts1 rx
    split at p
    · rename_i d e
      split at p
      · rename_i z
        exact ⟨v, d, rfl, toPy_dp so _ _ _ _ r e, z, p.ok so (.str _)⟩
      · exact p.elim
    · exact p.elim
  · exact p.elim⟩
end
end DV

namespace DV
open PySem L2 PyProof.Rows
/-! ### the runs, as equations -/
@[simp] theorem mret_eq {α : Type} (a : α) (s : Sto) : mret a s = some (.ok a, s) := rfl
@[simp] theorem mbind_ok {α β : Type} (m : M α) (k : α → M β) (s : Sto) : mbind m k s = match m s with | some (.ok a, s1) => k a s1 | some (.error x, s1) => some (.error x, s1) | none => none := rfl
@[simp] theorem dVar_eq (i : Nat) (Δ : Dn) (s : Sto) : dVar i Δ s = match Δ[i]? with | some (some d) => some (.ok d, s) | _ => none := rfl
@[simp] theorem dC_eq (d : D) (Δ : Dn) (s : Sto) : dC d Δ s = some (.ok d, s) := rfl
@[simp] theorem lift2_eq (f : Op2) (x y : D) (s : Sto) : lift2 f x y s = match f x y s with | some (d, s1) => some (.ok d, s1) | none => none := rfl
@[simp] theorem dOp_eq (f : Op2) (a b : DX) (Δ : Dn) : dOp f a b Δ = mbind (a Δ) fun x => mbind (b Δ) fun y => lift2 f x y := rfl
@[simp] theorem dBl_bl (b : Bool) : dBl (.bl b) = mret b := rfl
@[simp] theorem dTest_eq (a : DX) (Δ : Dn) : dTest a Δ = mbind (a Δ) dBl := rfl
@[simp] theorem dTru_eq (d : D) (s : Sto) : dTru d s = match truD d s with | some b => some (.ok b, s) | none => none := rfl
@[simp] theorem dAnd_eq (t u : DT) (Δ : Dn) : dAnd t u Δ = mbind (t Δ) fun c => if c = true then u Δ else mret false := rfl
@[simp] theorem dOr_eq (t u : DT) (Δ : Dn) : dOr t u Δ = mbind (t Δ) fun c => if c = true then mret true else u Δ := rfl
@[simp] theorem dNot_eq (t : DT) (Δ : Dn) : dNot t Δ = mbind (t Δ) fun c => mret !c := rfl
@[simp] theorem dTruth_eq (a : DX) (Δ : Dn) : dTruth a Δ = mbind (a Δ) dTru := rfl
@[simp] theorem dOrT_eq (a b : DX) (Δ : Dn) : dOrT a b Δ = mbind (a Δ) fun x => mbind (dTru x) fun c => if c = true then mret x else b Δ := rfl
@[simp] theorem dAndT_eq (a b : DX) (Δ : Dn) : dAndT a b Δ = mbind (a Δ) fun x => mbind (dTru x) fun c => if c = true then b Δ else mret x := rfl
@[simp] theorem dNotT_eq (a : DX) (Δ : Dn) : dNotT a Δ = mbind (a Δ) fun x => mbind (dTru x) fun b => mret (.bl !b) := rfl
@[simp] theorem dIf_eq (t : DT) (a b : DX) (Δ : Dn) : dIf t a b Δ = mbind (t Δ) fun c => if c = true then a Δ else b Δ := rfl
@[simp] theorem dNil_eq (Δ : Dn) (s : Sto) : dNil Δ s = some (.ok [], s) := rfl
@[simp] theorem dCons_eq (a : DX) (r : DA) (Δ : Dn) : dCons a r Δ = mbind (a Δ) fun x => mbind (r Δ) fun y => mret (x :: y) := rfl
@[simp] theorem dTup_eq (a : DA) (Δ : Dn) : dTup a Δ = mbind (a Δ) fun xs => if xs.length ≤ sizeLine then mret (.tup xs) else mfail := rfl
@[simp] theorem mnew_eq (o : DO) (s : Sto) : mnew o s = some (.ok (.obj s.length), s ++ [o]) := rfl
@[simp] theorem dLst_eq (a : DA) (Δ : Dn) : dLst a Δ = mbind (a Δ) fun xs => if xs.length ≤ sizeLine then mnew (.lst xs) else mfail := rfl
@[simp] theorem fI_eq (c : Int → Int → Bool) (g : Int → Int → D) (i j : Int) (s : Sto) : fI c g (.int i) (.int j) s = if c i j = true then some (g i j, s) else none := rfl
@[simp] theorem liftN_eq (f : OpN) (x : List D) (s : Sto) : liftN f x s = match f x s with | some (d, s1) => some (.ok d, s1) | none => none := rfl
@[simp] theorem dCB_eq (f : OpN) (a : DA) (Δ : Dn) : dCB f a Δ = mbind (a Δ) (liftN f) := rfl
@[simp] theorem dCl_eq (f : FnD) (a : DA) (Δ : Dn) : dCl f a Δ = mbind (a Δ) f := rfl
@[simp] theorem argN_eq (n : Nat) (f : FnD) (xs : List D) (s : Sto) : argN n f xs s = if xs.length = n then f xs s else none := rfl
@[simp] theorem fInt_int (i : Int) (s : Sto) : fInt [.int i] s = some (.int i, s) := rfl
@[simp] theorem fInt_bl (b : Bool) (s : Sto) : fInt [.bl b] s = some (.int (if b then 1 else 0), s) := rfl
@[simp] theorem gN_eq (i : Nat) (d : D) (Δ : Dn) (s : Sto) : gN i d Δ s = some (Δ.set i (some d), s) := rfl
@[simp] theorem gsNil_eq (Δ : Dn) (s : Sto) : gsNil [] Δ s = some (Δ, s) := rfl
@[simp] theorem gsCons_eq (g : DGf) (r : List D → Dn → Sto → Option (Dn × Sto)) (d : D) (ds : List D) (Δ : Dn) (s : Sto) : gsCons g r (d :: ds) Δ s = match g d Δ s with | some (Δ1, s1) => r ds Δ1 s1 | none => none := rfl
@[simp] theorem gTp_eq (n : Nat) (g : List D → Dn → Sto → Option (Dn × Sto)) (xs : List D) (Δ : Dn) (s : Sto) : gTp n g (.tup xs) Δ s = if xs.length = n then g xs Δ s else none := rfl
@[simp] theorem gSb_eq (f : D → D → D → Sto → Option Sto) (a b : DX) (d : D) (Δ : Dn) (s : Sto) : gSb f a b d Δ s = match a Δ s with | some (.ok o, s1) => (match b Δ s1 with | some (.ok i, s2) => (match f o i d s2 with | some s3 => some (Δ, s3) | none => none) | _ => none) | _ => none := rfl
@[simp] theorem fSet_eq (n : Nat) (k : Int) (d : D) (s : Sto) : fSet (.obj n) (.int k) d s = match lstAt s n with | some xs => (match ixN xs.length k with | some j => some (s.set n (.lst (xs.set j d))) | none => none) | none => none := rfl
@[simp] theorem sbind_eq {α : Type} (m : M α) (Δ : Dn) (k : α → Sto → RS) (s : Sto) : sbind m Δ k s = match m s with | some (.ok a, s1) => k a s1 | some (.error x, s1) => some (.ex x Δ, s1) | none => none := rfl
@[simp] theorem dAsg_eq (a : DX) (g : DGf) (Δ : Dn) : dAsg a g Δ = sbind (a Δ) Δ fun d s => match g d Δ s with | some (Δ1, s1) => some (.nx Δ1, s1) | none => none := rfl
@[simp] theorem dDrop_eq (a : DX) (Δ : Dn) : dDrop a Δ = sbind (a Δ) Δ fun _ s => some (.nx Δ, s) := rfl
@[simp] theorem dRet_eq (a : DX) (Δ : Dn) : dRet a Δ = sbind (a Δ) Δ fun d s => some (.rt d, s) := rfl
@[simp] theorem dNx_eq (Δ : Dn) (s : Sto) : dNx Δ s = some (.nx Δ, s) := rfl
@[simp] theorem dSeq_eq (a b : DS) (Δ : Dn) (s : Sto) : dSeq a b Δ s = match a Δ s with | some (.nx Δ1, s1) => b Δ1 s1 | some (.rt d, s1) => some (.rt d, s1) | some (.bk d, s1) => some (.bk d, s1) | some (.ct d, s1) => some (.ct d, s1) | some (.ex x d, s1) => some (.ex x d, s1) | none => none := by
  unfold dSeq
  rcases a Δ s with _ | ⟨r, s1⟩
  · rfl
  · cases r <;> rfl
@[simp] theorem dIfS_eq (t : DT) (a b : DS) (Δ : Dn) : dIfS t a b Δ = sbind (t Δ) Δ fun c s => if c = true then a Δ s else b Δ s := rfl
@[simp] theorem dPar_eq (i j : Nat) (a : DA) (Δ : Dn) : dPar i j a Δ = sbind (a Δ) Δ fun xs s => match xs with | [x, y] => some (.nx ((Δ.set i (some x)).set j (some y)), s) | _ => none := rfl
@[simp] theorem runFn_eq (n : Nat) (b : DS) (xs : List D) (s : Sto) : runFn n b xs s = match b (startD n xs) s with | some (.rt d, s1) => some (.ok d, s1) | some (.nx _, s1) => some (.ok .non, s1) | some (.ex x _, s1) => some (.error x, s1) | _ => none := rfl
@[simp] theorem fIx_obj (n : Nat) (i : Int) (s : Sto) : fIx (.obj n) (.int i) s = match lstAt s n with | some xs => (match atI xs i with | some d => some (d, s) | none => none) | none => none := rfl
@[simp] theorem fIx_tup (xs : List D) (i : Int) (s : Sto) : fIx (.tup xs) (.int i) s = match atI xs i with | some d => some (d, s) | none => none := rfl
@[simp] theorem fIx_str (z : Str) (i : Int) (s : Sto) : fIx (.str z) (.int i) s = if z.length ≤ sizeLine then (match atI z.cps.toList i with | some c => some (.str ⟨#[c]⟩, s) | none => none) else none := rfl
@[simp] theorem fLen_obj (n : Nat) (s : Sto) : fLen [.obj n] s = match lstAt s n with | some xs => some (.int xs.length, s) | none => none := rfl
@[simp] theorem fLen_tup (xs : List D) (s : Sto) : fLen [.tup xs] s = some (.int xs.length, s) := rfl
@[simp] theorem fLen_str (z : Str) (s : Sto) : fLen [.str z] s = if z.length ≤ sizeLine then some (.int z.length, s) else none := rfl
@[simp] theorem fTuple_obj (n : Nat) (s : Sto) : fTuple [.obj n] s = match lstAt s n with | some ys => some (.tup ys, s) | none => none := rfl
@[simp] theorem fTuple_tup (xs : List D) (s : Sto) : fTuple [.tup xs] s = some (.tup xs, s) := rfl
@[simp] theorem dOp1_eq (f : Op1) (a : DX) (Δ : Dn) : dOp1 f a Δ = mbind (a Δ) fun x => fun s => match f x s with | some (d, s1) => some (.ok d, s1) | none => none := rfl
@[simp] theorem iSeqT_eq (a : DX) (Δ : Dn) : iSeqT a Δ = mbind (a Δ) fun x s => match x with | .tup xs => some (.ok ⟨xs, none⟩, s) | _ => none := rfl
@[simp] theorem iSeqL_eq (a : DX) (Δ : Dn) : iSeqL a Δ = mbind (a Δ) fun x s => match x with | .obj n => (match lstAt s n with | some xs => some (.ok ⟨xs, some (n, xs)⟩, s) | none => none) | _ => none := rfl
@[simp] theorem dFor_eq (di : DI) (g : DGf) (b : DS) (Δ : Dn) : dFor di g b Δ = sbind (di Δ) Δ fun I s => forRun I g b I.its Δ s := rfl
@[simp] theorem dLc_eq (vs : List Nat) (di : DI) (g : DGf) (tt : DT) (de : DX) (Δ : Dn) : dLc vs di g tt de Δ = mbind (di Δ) fun I s => match lcRun I g tt de s.length I.its (wipeD Δ vs) (s ++ [.lst []]) with | some s1 => some (.ok (.obj s.length), s1) | none => none := rfl
@[simp] theorem dYes_eq (Δ : Dn) (s : Sto) : dYes Δ s = some (.ok true, s) := rfl
@[simp] theorem dMe_eq (C : Addr) (m : Str) (f : FnD) (a : DX) (da : DA) (Δ : Dn) : dMe C m f a da Δ = mbind (a Δ) fun x => mbind (mIns C m x) fun _ => mbind (da Δ) fun xs => f (x :: xs) := rfl
@[simp] theorem dMk_eq (C : Addr) (f : FnD) (da : DA) (Δ : Dn) : dMk C f da Δ = mbind (da Δ) (mMk C f) := rfl
@[simp] theorem iRange1_eq (da : DA) (Δ : Dn) : iRange1 da Δ = mbind (da Δ) fun xs s => match xs with | [.int j] => if rngOk j = true then some (.ok (rngI 0 j.toNat), s) else none | _ => none := rfl
@[simp] theorem iRange2_eq (da : DA) (Δ : Dn) : iRange2 da Δ = mbind (da Δ) fun xs s => match xs with | [.int i, .int j] => if (rngOk i && rngOk j) = true then some (.ok (rngI i (j - i).toNat), s) else none | _ => none := rfl
@[simp] theorem iEnum_eq (da : DA) (Δ : Dn) : iEnum da Δ = mbind (da Δ) fun xs s => match xs with | [.obj n] => (match lstAt s n with | some ys => some (.ok ⟨enumD 0 ys, some (n, ys)⟩, s) | none => none) | _ => none := rfl
end DV

namespace DV
open PySem L2 PyProof.Rows
theorem lstAt_set {s : Sto} {n : Nat} {xs ys : List D} (h : lstAt s n = some xs) : lstAt (s.set n (.lst ys)) n = some ys := by
  have := lstAt_eq h
  have hl := (List.getElem?_eq_some_iff.mp this).1
  unfold lstAt
  rw [List.getElem?_set_self hl]
theorem lstAt_lt {s : Sto} {n : Nat} {xs : List D} (h : lstAt s n = some xs) : n < s.length := (List.getElem?_eq_some_iff.mp (lstAt_eq h)).1
theorem lstAt_ne {s : Sto} {m n : Nat} {o : DO} (ne : m ≠ n) : lstAt (s.set n o) m = lstAt s m := by
  unfold lstAt
  rw [List.getElem?_set_ne (fun z => ne z.symm)]
theorem lstAt_app {s l : Sto} {n : Nat} {xs : List D} (h : lstAt s n = some xs) : lstAt (s ++ l) n = some xs := by
  have q := lstAt_eq h
  unfold lstAt
  rw [List.getElem?_append_left (List.getElem?_eq_some_iff.mp q).1, q]
@[simp] theorem lstAt_new {s : Sto} {xs : List D} : lstAt (s ++ [.lst xs]) s.length = some xs := by
  unfold lstAt
  rw [List.getElem?_append_right (Nat.le_refl _)]
  simp
@[simp] theorem lstAt_new2 {s : Sto} {xs ys : List D} : lstAt (s ++ [.lst xs, .lst ys]) s.length = some xs := by
  unfold lstAt
  rw [List.getElem?_append_right (Nat.le_refl _)]
  simp
@[simp] theorem lstAt_new3 {s : Sto} {a : DO} {ys : List D} : lstAt (s ++ [a, .lst ys]) (s.length + 1) = some ys := by
  unfold lstAt
  rw [List.getElem?_append_right (by omega)]
  simp
@[simp] theorem fI_obj {c : Int → Int → Bool} {g : Int → Int → D} {n : Nat} {y : D} {s : Sto} : fI c g (.obj n) y s = none := rfl
@[simp] theorem fI_str {c : Int → Int → Bool} {g : Int → Int → D} {n : Str} {y : D} {s : Sto} : fI c g (.str n) y s = none := rfl
@[simp] theorem fI_tup {c : Int → Int → Bool} {g : Int → Int → D} {n : List D} {y : D} {s : Sto} : fI c g (.tup n) y s = none := rfl
/-- two lists, item by item -/
inductive All2 {α β : Type} (R : α → β → Prop) : List α → List β → Prop
  | nil : All2 R [] []
  | cons {a b r t} : R a b → All2 R r t → All2 R (a :: r) (b :: t)
theorem All2.length {α β : Type} {R : α → β → Prop} : ∀ {r : List α} {t : List β}, All2 R r t → t.length = r.length
  | _, _, .nil => rfl
  | _, _, .cons _ h => congrArg (· + 1) h.length
theorem All2.imp {α β : Type} {R S : α → β → Prop} (f : ∀ a b, R a b → S a b) : ∀ {r : List α} {t : List β}, All2 R r t → All2 S r t
  | _, _, .nil => .nil
  | _, _, .cons h r => .cons (f _ _ h) (r.imp f)
/-- the turns of a comprehension -/
theorem lc_gen {I : Itd} {g : DGf} {tt : DT} {de : DX} {n : Nat} {Δ : Dn} (J : Nat → Sto → Prop) (R : D → List D → Prop) (hst : ∀ k s, J k s → I.still s = true)
    (step : ∀ k d s acc, d ∈ I.its → J (k + 1) s → lstAt s n = some acc → ∃ Δ1, g d Δ s = some (Δ1, s) ∧
      ((∃ s2, tt Δ1 s = some (.ok false, s2) ∧ lstAt s2 n = some acc ∧ R d [] ∧ J k s2) ∨
       (∃ s2 y s3, tt Δ1 s = some (.ok true, s2) ∧ de Δ1 s2 = some (.ok y, s3) ∧ lstAt s3 n = some acc ∧ R d [y] ∧ J k (s3.set n (.lst (acc ++ [y])))))) :
    ∀ (r : List D) (s : Sto) (acc : List D), (∀ d ∈ r, d ∈ I.its) → J r.length s → lstAt s n = some acc → acc.length + r.length ≤ sizeLine → ∃ s' yss, lcRun I g tt de n r Δ s = some s' ∧ lstAt s' n = some (acc ++ yss.flatten) ∧ All2 R r yss ∧ J 0 s'
  | [], s, acc, hm, j, e, hz => ⟨s, [], by simp [lcRun, hst _ _ j], by simpa using e, .nil, j⟩
  | d :: r, s, acc, hm, j, e, hz => by
    have hz' : acc.length < sizeLine := by simp at hz; omega
    obtain ⟨Δ1, hg, h⟩ := step r.length d s acc (hm d (by simp)) j e
    have hm' : ∀ d ∈ r, d ∈ I.its := fun d h => hm d (by simp [h])
    rcases h with ⟨s2, ht, e2, hR, j2⟩ | ⟨s2, y, s3, ht, hd, e3, hR, j3⟩
    · obtain ⟨s', yss, h1, h2, h3, h4⟩ := lc_gen J R hst step r s2 acc hm' j2 e2 (by simp at hz; omega)
      exact ⟨s', [] :: yss, by simp [lcRun, hst _ _ j, hg, ht, h1], by simpa using h2, .cons hR h3, h4⟩
    · obtain ⟨s', yss, h1, h2, h3, h4⟩ := lc_gen J R hst step r (s3.set n (.lst (acc ++ [y]))) (acc ++ [y]) hm' j3 (lstAt_set e3) (by simp at hz ⊢; omega)
      exact ⟨s', [y] :: yss, by simp [lcRun, hst _ _ j, hg, ht, hd, e3, hz', h1], by simpa using h2, .cons hR h3, h4⟩
/-- only what is new -/
def Gr (s s' : Sto) : Prop := ∃ l, s' = s ++ l
theorem Gr.refl (s : Sto) : Gr s s := ⟨[], by simp⟩
theorem Gr.trans {s s' s'' : Sto} (a : Gr s s') (b : Gr s' s'') : Gr s s'' := by
  obtain ⟨l, rfl⟩ := a
  obtain ⟨m, rfl⟩ := b
  exact ⟨l ++ m, by simp⟩
theorem Gr.app {s l : Sto} : Gr s (s ++ l) := ⟨l, rfl⟩
theorem Gr.lst {s s' : Sto} {n : Nat} {xs : List D} (h : Gr s s') (e : lstAt s n = some xs) : lstAt s' n = some xs := by
  obtain ⟨l, rfl⟩ := h
  exact lstAt_app e
theorem Gr.len {s s' : Sto} (h : Gr s s') : s.length ≤ s'.length := by
  obtain ⟨l, rfl⟩ := h
  simp
/-- grown behind s0, and changed there alone -/
theorem Gr.set {s s' : Sto} {n : Nat} {o : DO} (h : Gr s s') (hn : s.length ≤ n) : Gr s (s'.set n o) := by
  obtain ⟨l, rfl⟩ := h
  rw [List.set_append]
  split
  · omega
  · exact ⟨_, rfl⟩
/-- a comprehension whose parts only make new things -/
theorem lc_pure {I : Itd} {g : DGf} {tt : DT} {de : DX} {Δ : Dn} {s : Sto} (R : D → List D → Prop) (hst : ∀ s', Gr s s' → I.still s' = true)
    (step : ∀ d s', d ∈ I.its → Gr s s' → ∃ Δ1, g d Δ s' = some (Δ1, s') ∧
      ((∃ s2, tt Δ1 s' = some (.ok false, s2) ∧ Gr s' s2 ∧ R d []) ∨ (∃ s2 y s3, tt Δ1 s' = some (.ok true, s2) ∧ de Δ1 s2 = some (.ok y, s3) ∧ Gr s' s3 ∧ R d [y]))) (hz : I.its.length ≤ sizeLine) :
    ∃ s' yss, lcRun I g tt de s.length I.its Δ (s ++ [.lst []]) = some s' ∧ lstAt s' s.length = some yss.flatten ∧ All2 R I.its yss ∧ Gr s s' := by
  obtain ⟨s', yss, h1, h2, h3, h4⟩ := lc_gen (I := I) (g := g) (tt := tt) (de := de) (n := s.length) (Δ := Δ) (fun _ s' => Gr s s') R (fun _ s' h => hst s' h) (fun k d s' acc hd j e => by
    obtain ⟨Δ1, hg, h⟩ := step d s' hd j
    refine ⟨Δ1, hg, ?_⟩
    rcases h with ⟨s2, ht, g2, hR⟩ | ⟨s2, y, s3, ht, hy, g3, hR⟩
    · exact .inl ⟨s2, ht, g2.lst e, hR, j.trans g2⟩
    · exact .inr ⟨s2, y, s3, ht, hy, g3.lst e, hR, (j.trans g3).set (Nat.le_refl _)⟩) I.its (s ++ [.lst []]) [] (fun _ h => h) Gr.app lstAt_new (by simpa using hz)
  exact ⟨s', yss, h1, by simpa using h2, h3, h4⟩
end DV

namespace PySem.W
open PySem PySem.Calls PyProof.Rows Builtin
section
variable {prog : Program} {w : World} {A : Around} {E : Value → Shared → Prop} {s : Shared} {K : Frag} {x C L f : Addr} {h₀ : Heap} {m : Str → Option Value} {ox : Obj} {od : Option Obj} {b tb : Value}
set_option maxHeartbeats 2000000 in
/-- != of an instance whose class has an own == but no own != -/
theorem ne_K {Q : Value → Shared → Prop} (hu : A.units + 1 < cLine) (Ff : Fr h₀ L s.heap m) (X₀ : K.In h₀) (I : InstAt s.heap x ox C od) (hb : Looks (model prog w) s.heap (typeOf b) tb) (hn : notFirst K C tb = true)
    (hs : findIn K (.ref C) "__ne__" = some (some (.builtin "object.__ne__"))) (hm : mroIn K C (.type "object") = some true) (he : findIn K (.ref C) "__eq__" = some (some (.ref f))) (hf : isFn K (.ref f) = true)
    (h : wpAny (model prog w) A.in1 (call (.ref f) [.ref x, b]) (fun v s' => ∃ r, v = .bool r ∧ Q (.bool (!r)) s') E s) : wpAny (model prog w) A (richCompare .NotEq (.ref x) b) Q E s := by
  have X := X₀.keeps Ff.keep
  have body : wpAny (model prog w) A.in1 (Builtin.«object.__ne__» ⟨[.ref x, b], []⟩) (fun fin s' => ∃ r, fin = .done (.ret (.bool r)) ∧ Q (.bool r) s') E s := by
    unfold Builtin.«object.__ne__»
    obtain ⟨hp, g, d, tk, os⟩ := s
    repeat (first
      | with_reducible refine wpAny_cRoomFor hu ?_
      | (refine wpAny_bind (m := callSpecialIfBound? (.ref x) (Str.ofString "__eq__") [b])
          (ifBound_K X I he hf (wpAny_mono h (fun r s' hr => by
            obtain ⟨r, rfl, hq⟩ := hr
            repeat (first | exact ⟨_, rfl, hq⟩ | exact wpAny_pure ⟨_, rfl, hq⟩ | exact wpAny_truthy_bool ⟨_, rfl, hq⟩ | (refine wpAny_bind (m := truthy (.bool _)) (wpAny_truthy_bool ?_)) | wp_step)) fun _ _ e => e)))
      | wp_step)
  have called : wpAny (model prog w) A (call (.builtin "object.__ne__") ([.ref x] ++ [b])) (fun v s' => ∃ r, v = .bool r ∧ Q (.bool r) s') E s :=
    wpAny_call (codeAny_call_builtin F.cmp_object.ne.plain F.cmpEntry_ne (check_slot F.cmpKind_ne F.cmpSplit_ne (I.type.andThen (looks_subIn X (t := .ref C) hm)) (F.cmpArgs_ne _ _)
      (wpAny_mono body (fun fin s' hv => by
        obtain ⟨r, rfl, hq⟩ := hv
        first | exact ⟨r, rfl, hq⟩ | exact wpAny_pure ⟨r, rfl, hq⟩) fun _ _ e => e)))
  have one : wpAny (model prog w) A (tryCompare (.ref x) "__ne__" b) (fun r s' => ∃ v, r = some v ∧ Q v s') E s := by
    unfold tryCompare
    refine wpAny_bind ?_
    simp only [callSpecialIfBound?, bindSpecialIfBound?]
    refine wpAny_holding (wpAny_bind (wpAny_bind (wpAny_bind (I.type.here ((looks_findIn X hs).here ?_)))))
    refine wpAny_bind (wpAny_askSetting (wpAny_ite ?_))
    have fin : ∀ {R : Option Value → Shared → Prop}, (∀ (r : Bool) s', Q (.bool r) s' → R (some (.bool r)) s') → wpAny (model prog w) A (call (.builtin "object.__ne__") ([.ref x] ++ [b]) >>= fun v => pure (some v)) R E s := fun hR =>
      wpAny_bind (wpAny_mono called (fun v s' h' => wpAny_pure (by obtain ⟨r, rfl, q⟩ := h'; exact hR r s' q)) fun _ _ h' => h')
    rw [F.cmp_object.ne.bind]
    split
    · exact wpAny_bind (wpAny_pure (wpAny_pure (by exact fin fun r s' q => wpAny_pure ⟨_, rfl, q⟩)))
    · exact wpAny_tryCatch (wpAny_bind (wpAny_pure (wpAny_pure (by exact fin fun r s' q => wpAny_pure ⟨_, rfl, q⟩))))
  unfold richCompare
  simp only [oneThing_ref]
  refine wpAny_holding (wpAny_bind (wpAny_cRoomFor (Nat.lt_of_succ_lt hu) ?_))
  refine wpAny_bind (I.type.here (wpAny_bind (hb.here ?_)))
  split
  · rename_i q
    have e : subIn K tb (.ref C) = some false := by
      rcases Bool.or_eq_true_iff.mp hn with e | e
      · rw [beq_iff_eq.mp e] at q; simp at q
      · exact beq_iff_eq.mp e
    refine wpAny_bind ((looks_subIn X e).here ?_)
    simp only [Bool.false_eq_true, if_false]
    refine wpAny_bind (wpAny_mono one (fun r s' z => ?_) fun _ _ e => e)
    obtain ⟨v, rfl, hq⟩ := z
    exact wpAny_pure hq
  · refine wpAny_bind (wpAny_pure ?_)
    simp only [Bool.false_eq_true, if_false]
    refine wpAny_bind (wpAny_mono one (fun r s' z => ?_) fun _ _ e => e)
    obtain ⟨v, rfl, hq⟩ := z
    exact wpAny_pure hq
end
end PySem.W
namespace DV
open PySem L2 PyProof.Rows
/-! ### isinstance of an own class -/
structure IsC (K : PySem.W.Frag) (C : Addr) : Prop where
  cl : Cls K C
  ha : PySem.W.findIn K (.ref C) "__class__" = some (some (.builtin "object.__class__"))
  hn : PySem.W.specialIn K (.builtin "object.__class__") "__get__" = some (some (.builtin "getset_descriptor.__get__"))
  ht : PySem.W.takesIn K (.builtin "object.__class__") = some true
  hm : PySem.W.mroIn K C (.type "object") = some true
  ci : PySem.W.isClsIn K C = true
  ty : PySem.W.typeIn K (.ref C) = some (.type "type")
theorem sub_kd {K : PySem.W.Frag} {C : Addr} (k : Kd) : PySem.W.subIn K (.type k.name) (.ref C) = some false := by
  have h : ∀ k : Kd, (fastFind? k.name).isSome = true := by intro k; cases k <;> decide +kernel
  have hk := h k
  unfold PySem.W.subIn fastBuiltinMro
  obtain ⟨d, e⟩ := Option.isSome_iff_exists.mp hk
  simp only [e, Option.map_some, Option.some.injEq]
  induction d.mro with
  | nil => rfl
  | cons a r ih => rw [List.map_cons, List.contains_cons, ih]; rfl
theorem IsC.kit {K : PySem.W.Frag} {C : Addr} (c : IsC K C) {t : Value} (ht : (t == .ref C) = false) (hs : PySem.W.subIn K t (.ref C) = some false) : PySem.W.kitOne K t (.ref C) = some false := by
  have h : ((PySem.W.clsIn K C).isSome && PySem.W.typeIn K (.ref C) == some (.type "type")) = true := by
    have := c.ci
    unfold PySem.W.isClsIn at this
    rw [this, c.ty]; decide
  unfold PySem.W.kitOne PySem.W.kitCls
  rw [ht]
  simp only [Bool.false_eq_true, if_false, h, if_true]
  exact hs
/-- the answer of isinstance(x, C); L: the other classes -/
def fIsiC (C : Addr) (L : List Addr) : OpN := fun xs s => match xs with
  | [x, .adr c] => if c = C then match kdOf x s with
    | some _ => some (.bl false, s)
    | none => match x with
      | .obj n => match insAt s n with
        | some (C', _) => if C' = C then some (.bl true, s) else if C' ∈ L then some (.bl false, s) else none
        | none => none
      | _ => none
    else none
  | _ => none
section
variable {X : Cx} {W : WX} {k : Nat} {f C : Addr} {fd : FuncData} {ps : List Str} {fM : FnD}
theorem ins_ty {φ : List Addr} {H : Hp} {s : Sto} {v : V} {n : Nat} {C : Addr} {fs : List (Str × D)} (c : IsC X.K C) (so : So X.K φ H s) (r : Dt X.K φ H v (.obj n)) (e : insAt s n = some (C, fs)) : TyX X.K H v (.ref C) := by
  cases r
  rename_i a ha
  obtain ⟨b, hb, dx, vs, k, _⟩ := so.at (insAt_eq e)
  rw [ha] at hb
  cases hb
  exact .base (.ins k c.cl c.ha c.hn c.ht c.hm)
theorem dc_isiC {L : List Addr} (c : IsC X.K C) (hL : ∀ C' ∈ L, IsC X.K C' ∧ PySem.W.subIn X.K (.ref C') (.ref C) = some false) : DCall X (.builtin "isinstance") (fIsiC C L) := ⟨_, call_isi, fun φ H s vs ds Q so rx p => by
  unfold fIsiC at p
  split at p
  · rename_i x cc
    obtain ⟨v, u, rfl, r1, r2⟩ := dts2 rx
    split at p
    · rename_i z
      subst z
      cases r2
      split at p
      · rename_i k e
        exact ⟨v, .ref cc, .type k.name, .ref cc, false, rfl, .own cc, kd_ty so r1 e, c.kit rfl (sub_kd k), p.ok so (.bl _)⟩
      · split at p
        · rename_i n
          split at p
          · rename_i C' fs e
            split at p
            · rename_i z
              subst z
              exact ⟨v, .ref C', .ref C', .ref C', true, rfl, .own C', ins_ty c so r1 e, by unfold PySem.W.kitOne; simp, p.ok so (.bl _)⟩
            · rename_i z
              split at p
              · rename_i y
                exact ⟨v, .ref cc, .ref C', .ref cc, false, rfl, .own cc, ins_ty (hL C' y).1 so r1 e, c.kit (by simpa using z) (hL C' y).2, p.ok so (.bl _)⟩
              · exact p.elim
          · exact p.elim
        · exact p.elim
    · exact p.elim
  · exact p.elim⟩
/-! ### the own == of a class, and its != -/
def okR (C : Addr) (y : D) (s : Sto) : Bool := match kdOf y s with
  | some _ => true
  | none => match y with
    | .obj n => match insAt s n with
      | some (C', _) => C' == C
      | none => false
    | _ => false
def fOwn (C : Addr) (neg : Bool) (fM : FnD) : Op2 := fun x y s => match x with
  | .obj n => match insAt s n with
    | some (C', _) => if C' = C ∧ okR C y s = true then match fM [x, y] s with
      | some (.ok (.bl b), s') => some (.bl (if neg then !b else b), s')
      | _ => none
      else none
    | none => none
  | _ => none
theorem okR_ty {φ : List Addr} {H : Hp} {s : Sto} {v : V} {y : D} (c : IsC X.K C) (so : So X.K φ H s) (r : Dt X.K φ H v y) (e : okR C y s = true) : ∃ t, TyX X.K H v t ∧ PySem.W.notFirst X.K C t = true := by
  unfold okR at e
  split at e
  · rename_i k ek
    exact ⟨_, kd_ty so r ek, by unfold PySem.W.notFirst; rw [sub_kd]; simp⟩
  · split at e
    · split at e
      · rename_i n C' fs e1
        have z : C' = C := by simpa using e
        subst z
        exact ⟨_, ins_ty c so r e1, by unfold PySem.W.notFirst; simp⟩
      · cases e
    · cases e
/-- the relation of an operation that does f on data -/
def rD (K : PySem.W.Frag) (f : Op2) : R2 := fun v u H Q => ∃ φ s x y, So K φ H s ∧ Dt K φ H v x ∧ Dt K φ H u y ∧ PsO K φ H Q (f x y s)
theorem fOwn_read {neg : Bool} {φ : List Addr} {H : Hp} {s : Sto} {v u : V} {x y : D} {Q : VK} (c : IsC X.K C) (so : So X.K φ H s) (rx : Dt X.K φ H v x) (ry : Dt X.K φ H u y) (h : PsO X.K φ H Q (fOwn C neg fM x y s)) :
    ∃ a dx fs t, v = .ref a ∧ H a = some (.ins C dx fs) ∧ TyX X.K H u t ∧ PySem.W.notFirst X.K C t = true ∧ ∃ b s', fM [x, y] s = some (.ok (.bl b), s') ∧ PsO X.K φ H Q (some (.bl (if neg then !b else b), s')) := by
  unfold fOwn at h
  split at h
  · rename_i n
    split at h
    · rename_i C' fs e1
      split at h
      · rename_i z
        obtain ⟨z1, z2⟩ := z
        subst z1
        cases rx
        rename_i a ha
        obtain ⟨b, hb, dx, vs, k, _⟩ := so.at (insAt_eq e1)
        rw [ha] at hb
        cases hb
        obtain ⟨t, ht, hn⟩ := okR_ty c so ry z2
        split at h
        · rename_i b s' e2
          exact ⟨a, dx, vs, t, rfl, k, ht, hn, b, s', e2, h⟩
        · exact h.elim
      · exact h.elim
    · exact h.elim
  · exact h.elim
theorem dop_ownEq (c : IsC X.K C) (F : FnX X k f fd ["self", "other"] fM) (hr : RoomG k X.A) (hb : Binds X.K fd ["self", "other"] []) (tk : Takes X W) (hs : PySem.W.findIn X.K (.ref C) "__eq__" = some (some (.ref f))) (hf : PySem.W.isFn X.K (.ref f) = true) : DOp X (compareOp .Eq) (fOwn C false fM) := by
  refine ⟨rD X.K (fOwn C false fM), fun pins s σ H x y v u Q I rx ry h => ?_, fun φ H s x y v u Q so rx ry h => ⟨φ, s, x, y, so, rx, ry, h⟩⟩
  obtain ⟨φ, st, dx, dy, so, r1, r2, h⟩ := h
  obtain ⟨a, ddx, fs, t, rfl, ha, ty, hn, b, s', e, h⟩ := fOwn_read c so r1 r2 h
  cases (show v = Value.ref a from rx)
  obtain ⟨mA, J, _⟩ := ins_get I.hok ha
  obtain ⟨od, J, _⟩ := J.look
  obtain ⟨m, hF⟩ := I.fr
  obtain ⟨P, Z, p, hx⟩ := kit_of I ry ty
  show wpAny (model X.prog X.w) X.A (richCompare .Eq (.ref a) u) (EP X pins σ Q) X.xe s
  refine PySem.W.cmp_K (op := .Eq) (tb := t) hr.rm.units0 hF I.ok.mod.kin J (Z.ty _ _ I.kIn p) hn hs hf ?_
  have sp : spD X.K 2 fM ([V.ref a, y] ++ []) H (fun v H' => (∃ b, v = .bl b) ∧ Q v H') (WE W σ) := by
    refine ⟨rfl, [dx, dy], φ, st, .cons r1 (.cons r2 .nil), so, ?_⟩
    rw [e]
    intro φ' v H' f so' rv
    exact ⟨by cases rv; exact ⟨_, rfl⟩, h φ' v H' f so' rv⟩
  refine wpAny_mono (run_fnG (us := [.ref a, u]) (vs := [.ref a, y]) F hr hb tk I (.cons rfl (.cons ry .nil)) sp) (fun r s2 q => ?_) fun _ _ x => x
  obtain ⟨z, H', I', rz, ⟨b', ez⟩, q⟩ := q
  subst ez
  cases (show r = Value.bool b' from rz)
  exact ⟨.bl b', H', I', rfl, q⟩
theorem dop_ownNe (c : IsC X.K C) (F : FnX X k f fd ["self", "other"] fM) (hr : RoomG (k + 1) X.A) (hb : Binds X.K fd ["self", "other"] []) (tk : Takes X W) (hs : PySem.W.findIn X.K (.ref C) "__eq__" = some (some (.ref f))) (hf : PySem.W.isFn X.K (.ref f) = true)
    (hs2 : PySem.W.findIn X.K (.ref C) "__ne__" = some (some (.builtin "object.__ne__"))) : DOp X (compareOp .NotEq) (fOwn C true fM) := by
  refine ⟨rD X.K (fOwn C true fM), fun pins s σ H x y v u Q I rx ry h => ?_, fun φ H s x y v u Q so rx ry h => ⟨φ, s, x, y, so, rx, ry, h⟩⟩
  obtain ⟨φ, st, dx, dy, so, r1, r2, h⟩ := h
  obtain ⟨a, ddx, fs, t, rfl, ha, ty, hn, b, s', e, h⟩ := fOwn_read c so r1 r2 h
  cases (show v = Value.ref a from rx)
  obtain ⟨mA, J, _⟩ := ins_get I.hok ha
  obtain ⟨od, J, _⟩ := J.look
  obtain ⟨m, hF⟩ := I.fr
  obtain ⟨P, Z, p, hx⟩ := kit_of I ry ty
  show wpAny (model X.prog X.w) X.A (richCompare .NotEq (.ref a) u) (EP X pins σ Q) X.xe s
  have hr1 : RoomG k X.A.in1 := ⟨hr.rm.in1, hr.gd⟩
  refine PySem.W.ne_K (tb := t) hr1.rm.units0 hF I.ok.mod.kin J (Z.ty _ _ I.kIn p) hn hs2 c.hm hs hf ?_
  have sp : spD X.K 2 fM [V.ref a, y] H (fun v H' => (∃ b : Bool, v = .bl b ∧ Q (.bl (!b)) H')) (WE W σ) := by
    refine ⟨rfl, [dx, dy], φ, st, .cons r1 (.cons r2 .nil), so, ?_⟩
    rw [e]
    intro φ' v H' f so' rv
    cases rv
    exact ⟨b, rfl, h φ' (.bl (!b)) H' f so' (.bl _)⟩
  have e0 : Env0 X.prog X.w X.K X.mg X.base X.A.in1 X.stack s H := by
    have e := I.env0
    exact ⟨e.frames, e.mod, e.bs, e.bsz, e.funs, e.frf, e.hok, e.bare⟩
  have rr : Vals [V.ref a, y] [Value.ref a, u] := .cons rfl (.cons ry .nil)
  refine wpAny_call (codeAny_mono (F.run X.A.in1 X.stack s H ⟨[.ref a, u], []⟩ [.ref a, u] [.ref a, y] _ (WE W σ) hr1 e0 (by
    have bb := hb s [.ref a, u] I.kIn (by simp)
    simpa using bb) rr sp) fun q s2 hq => ?_)
  cases q with
  | error e => exact passAt tk σ pins H s e s2 I hq
  | ok fl => cases fl with
    | ret w =>
      obtain ⟨z, H', I', rz, ⟨b', ez, q⟩⟩ := I.after hq
      subst ez
      cases (show w = Value.bool b' from rz)
      exact ⟨b', rfl, .bl (!b'), H', I', rfl, q⟩
    | next => exact hq.elim
    | brk => exact hq.elim
    | cont => exact hq.elim
end
end DV

set_option maxHeartbeats 2000000
namespace DV
open PySem L2 PyProof.Rows
/-! ### try: body, except C as n: m = n — the caught exception is a value from there on -/
section
variable {X : Cx} {pins : List (Addr × Obj)} {σ : L2.St} {H : Hp} {s : Shared}
/-- an exception object that lies is looked at from now on -/
theorem track {e : Addr} {oe : Obj} {fl : Array Value} {cls : Value} {d : Option Addr} (I : Inv X pins σ H s) (he : s.heap.get? e = some oe) (hz : Zc cls d oe) (hd : oe.data = .fields fl) (na : H e = none) (nL : e ≠ X.env.locals)
    (n0 : X.s_0.heap.get? e = none) (np : ∀ p ∈ X.pn ++ pins, p.1 ≠ e) : Inv X pins σ (upd H e (ExK cls d e)) s := by
  have far : ∀ b u, X.s_0.heap.get? b = some u → b ≠ e := fun b u q z => by subst z; rw [n0] at q; cases q
  have old : ∀ b u, H b = some u → b ≠ e := fun b u q => ne_of_none q na
  have B := I.base
  refine { ok := I.ok, os := I.os, bare := I.bare, base := ?_, loc := I.loc, cell := I.cell, free := ?_, freeC := ?_, pin := ?_, hok := ?_, len := I.len }
  · refine { keep := B.keep, slot := B.slot, there := B.there, free := ?_, tups := ?_, frzs := ?_, tbls := ?_ }
    · intro b u q1 q2 q3
      rw [upd_ne (far b u q1)]
      exact B.free b u q1 q2 q3
    · intro b xs q
      rw [upd_ne (old b _ (B.tups b xs q))]
      exact B.tups b xs q
    · intro b u w q
      rw [upd_ne (old b _ (B.frzs b u w q))]
      exact B.frzs b u w q
    · intro b ps q
      obtain ⟨more, q2⟩ := B.tbls b ps q
      exact ⟨more, by rw [upd_ne (old b _ q2)]; exact q2⟩
  · rw [upd_ne fun z => nL z.symm]
    exact I.free
  · intro x c q
    obtain ⟨v, hv⟩ := I.cell x c q
    have ne : c ≠ e := fun z => by
      subst z
      obtain ⟨_, q1, q2⟩ := hv
      rw [he] at q1
      cases q1
      rw [hd] at q2
      cases q2
    rw [upd_ne ne]
    exact I.freeC x c q
  · intro p hp
    obtain ⟨q1, q2, q3⟩ := I.pin p hp
    exact ⟨q1, by rw [upd_ne (np p hp)]; exact q2, q3⟩
  · intro b u q
    by_cases z : b = e
    · subst z
      rw [upd_same] at q
      cases q
      exact ⟨⟨oe, fl, he, hz, hd⟩, ⟨oe, he⟩, fun h1 h2 ⟨o, v, w1, w2⟩ k => ⟨o, v, k o w1, w2⟩⟩
    · rw [upd_ne z] at q
      exact (I.hok b u q).stay (fun _ _ _ k => k) (fun c k => by rw [upd_ne (old c _ k)]; exact k) fun c xs k => by rw [upd_ne (old c _ k)]; exact k
end
/-- what the clause wishes of an exception of the body: it is one of the class c, and the suite keeps it -/
def wKept (K : PySem.W.Frag) (c : Value) (i : Nat) (ts : Addr → Value → Option Addr → TS) (Q : Ends) : WX := fun cls d σ H =>
  PySem.W.exmOne K cls c = some true ∧ ∀ e, H e = none → ts e cls d ⟨fun σ' H' => H' e = none → Q.nx (σ'.set i none) (upd H' e (ExK cls d e)), fun _ _ => False, fun _ _ => False, fun _ _ => False⟩ (σ.set i (some (.ref e))) H
section
variable {X : Cx} {x n : Str} {c : Value} {i : Nat} {body suite : List Stmt} {st1 : Stmt} {np pos pos' : Pos} {tb : WX → TS} {ts : Addr → Value → Option Addr → TS}
theorem ps_try_kept (stk : X.stack = X.env :: X.outer) (frm : X.env.frame = some X.env.locals) (nd : X.N.Nodup) (ni : X.N[i]? = some n) (nl : X.env.kindOf n = some .local) (nc : Names X x c) (hex : X.ex = [])
    (bodyOk : ∀ (W : WX) (pn : List (Addr × Obj)) (xe : Value → Shared → Prop), Takes (X.tr pn xe) W → PassesOwn (model X.prog X.w) X.A X.env xe → PSs (X.tr pn xe) body (tb W))
    (suiteOk : ∀ (e : Addr) (oe : Obj) (cls : Value) (d : Option Addr) (pn : List (Addr × Obj)), Zc cls d oe → (∃ vs, oe.data = .fields vs) → PSs (X.suite e ((e, oe) :: pn)) (st1 :: suite) (ts e cls d)) :
    PS X (.Try body [.ExceptHandler (some (.Name x np)) (some n) (st1 :: suite) pos'] [] [] pos) (fun Q σ H => tb (wKept X.K c i ts Q) Q σ H) := by
  constructor
  intro pins s σ H Q I start
  have okX := I.ok
  have allF : X.A.frames = some (X.env :: X.outer) := okX.frames.trans (congrArg some stk)
  let goOn : Value → Shared → Prop := fun u t1 =>
    wpAny (model X.prog X.w) X.A (noteFrame u X.env) (fun _ t2 =>
      wpAny (model X.prog X.w) X.A (setFlight u none) (fun _ t3 =>
        wpAny (model X.prog X.w) X.A (handleBy u X.env [.ExceptHandler (some (.Name x np)) (some n) (st1 :: suite) pos']) (SP X pins Q) X.xe t3) X.xe t2) X.xe t1
  have caught : Takes (X.tr (X.pn ++ pins) goOn) (wKept X.K c i ts Q) := by
    intro u t xx
    obtain ⟨e, B, t0, pins0, σ0, H0, cls, d, rfl, I0', inB, upTo, sky0, na, sameOs, allB, isC, wish⟩ := xx
    have I0 : Inv X pins σ0 H0 t0 := I0'.ofTry okX
    have sky : Sky B (X.env :: X.outer) e (Zc cls d) X.env.locals t.heap := stk ▸ sky0
    show wpAny _ X.A (noteFrame (.ref e) X.env) _ _ _
    refine Sky.land Zc.steady allF frm sky ?_
    intro g3 fly3 up3
    have I3 : Inv X pins σ0 H0 { t with heap := g3 } := I0.landed inB fly3.1 (upTo.trans up3) sameOs allB
    obtain ⟨o3, fl3, lies3, z3, dat3⟩ := fly3.there
    have noFrame : e ∉ frs (X.env :: X.outer) := by
      intro hm
      obtain ⟨_, o', q, hnf⟩ := fly3.2.2.1.mem hm
      rw [lies3] at q
      cases q
      exact hnf _ dat3
    have offLocals : e ≠ X.env.locals := by
      intro z
      apply noFrame
      exact List.mem_filterMap.mpr ⟨X.env, by simp, by rw [frm, z]⟩
    have offOuter : e ∉ X.fs := by
      intro hm
      obtain ⟨v, hv, q⟩ := List.mem_filterMap.mp hm
      apply noFrame
      exact List.mem_filterMap.mpr ⟨v, by simp [hv], q⟩
    -- the exception is younger than all that was looked at
    have young : t0.heap.get? e = none := by
      cases q : t0.heap.get? e with
      | none => rfl
      | some o =>
        have inB' := inB e o q (by rw [stk]; exact noFrame)
        rw [fly3.2.1] at inB'
        cases inB'
    have young0 : X.s_0.heap.get? e = none := by
      cases q : X.s_0.heap.get? e with
      | none => rfl
      | some o =>
        obtain ⟨o', q'⟩ := I0.base.there e o q (by rw [hex]; simp)
        rw [young] at q'
        cases q'
    have noPin : ∀ p ∈ X.pn ++ pins, p.1 ≠ e := by
      intro p hp z
      have q := (I0.pin p hp).1
      rw [z, young] at q
      cases q
    have S3 := I3.suite lies3 dat3 na offLocals offOuter
    refine wpAny_handleBy_cons (codeAny_handlers_test ?_) (by intro q; cases q)
    have itsType : PySem.W.Looks (model X.prog X.w) g3 (typeOf (.ref e)) cls := by
      intro A1 Q1 E1 t1 kk q
      refine wpAny_typeOf_ref (kk _ _ lies3) ?_
      rw [z3.1]
      exact q
    have meets := PySem.W.exm_one (M := model X.prog X.w) I3.kIn itsType isC
    have named : ∀ {Q1 E1 : Value → Shared → Prop}, Q1 c { t with heap := g3 } → wpAny (model X.prog X.w) (X.A.mark (some (.ref e))) (eval (.Name x np) X.env) Q1 E1 { t with heap := g3 } := by
      intro Q1 E1 q
      obtain ⟨gx, dbg, own | ⟨no, blt, ne⟩⟩ := nc
      · exact ld_glob (X := X.suite e ((e, o3) :: (X.pn ++ pins))) S3 gx own q dbg
      · exact ld_blt (X := X.suite e ((e, o3) :: (X.pn ++ pins))) S3 gx no blt q ne dbg
    refine named (meets.here ?_)
    refine codeAny_handlers_suite_as (HandSPX.lands_againZ fly3 ?_)
    intro g4 fly4 up4
    have I4 : Inv X pins σ0 H0 { t with heap := g4 } := I0.landed inB fly4.1 ((upTo.trans up3).trans up4) sameOs allB
    obtain ⟨o4, fl4, lies4, z4, dat4⟩ := fly4.there
    have S4 := I4.suite lies4 dat4 na offLocals offOuter
    refine store_ok (X := X.suite e ((e, o4) :: (X.pn ++ pins))) (v := .ref e) S4 nd ni (.inl nl) rfl ?_ (.inr nl)
    intro t5 S5
    have suite5 := (suiteOk e o4 cls d (X.pn ++ pins) z4 ⟨_, dat4⟩).run [] t5 _ H0 _ S5 (wish e na)
    refine wpAny_mono suite5 ?_ fun _ _ z => z.elim
    intro f t6 done6
    cases f with
    | next =>
      obtain ⟨σ6, H6, S6, q6⟩ := done6
      have pe := S6.pin (e, o4) (by simp)
      have I6 := track (S6.unsuite okX) pe.1 z4 dat4 pe.2.1 offLocals young0 noPin
      exact gone_ok I6 nd ni nl fun t7 I7 => ⟨_, _, I7, q6 pe.2.1⟩
    | brk =>
      obtain ⟨_, _, _, z⟩ := done6
      exact z.elim
    | cont =>
      obtain ⟨_, _, _, z⟩ := done6
      exact z.elim
    | ret u =>
      obtain ⟨_, _, _, _, _, z⟩ := done6
      exact z.elim
  have ran := (bodyOk (wKept X.K c i ts Q) (X.pn ++ pins) goOn caught PassesOwn.looking).run [] s σ H Q (I.toTry _) start
  refine wpAny_Try_except (wpAny_mono ran ?_ fun _ _ z => z)
  intro f t1 done1
  cases f with
  | next =>
    obtain ⟨σ1, H1, I1, q⟩ := done1
    exact wpAny_execs_nil ⟨σ1, H1, I1.ofTry okX, q⟩
  | brk => exact (fun ⟨σ1, H1, I1, q⟩ => ⟨σ1, H1, I1.ofTry okX, q⟩) done1
  | cont => exact (fun ⟨σ1, H1, I1, q⟩ => ⟨σ1, H1, I1.ofTry okX, q⟩) done1
  | ret u => exact (fun ⟨v, σ1, H1, I1, r, q⟩ => ⟨v, σ1, H1, I1.ofTry okX, r, q⟩) done1
end
/-! ### .. over the data -/
def dTryK (L : List Addr) (i j : Nat) (db : DS) : DS := fun Δ s => match db Δ s with
  | some (.ex x Δ1, s1) => if x.cls ∈ L ∧ i < Δ1.length ∧ j < Δ1.length then some (.nx ((Δ1.set j (some (.exc x.cls (x.fs.map (·.1)) (x.fs.map (·.2))))).set i none), s1) else none
  | r => r
theorem prs_split {R : V → D → Prop} : ∀ {vs : List (Str × V)} {fs : List (Str × D)}, Prs R vs fs → vs.map (·.1) = fs.map (·.1) ∧ vs = (fs.map (·.1)).zip (vs.map (·.2)) ∧ (fs.map (·.1)).length = (vs.map (·.2)).length
  | _, _, .nil => ⟨rfl, rfl, rfl⟩
  | _, _, .cons h r => by
    obtain ⟨h1, h2, h3⟩ := prs_split r
    refine ⟨by simp [h1], ?_, by simpa using h3⟩
    rw [List.map_cons, List.map_cons, List.zip_cons_cons, ← h2]
theorem prs_dts {K : PySem.W.Frag} {φ : List Addr} {H : Hp} : ∀ {vs : List (Str × V)} {fs : List (Str × D)}, Prs (Dt K φ H) vs fs → Dts K φ H (vs.map (·.2)) (fs.map (·.2))
  | _, _, .nil => .nil
  | _, _, .cons h r => .cons h (prs_dts r)
theorem Xr.exv {K : PySem.W.Frag} {φ : List Addr} {H : Hp} {cls : Value} {d : Option Addr} {x : Xc} {e : Addr} (h : Xr K φ H cls d x) (na : H e = none) : ∃ vs, ExV (upd H e (ExK cls d e)) e x.cls (x.fs.map (·.1)) vs ∧ Dts K φ H vs (x.fs.map (·.2)) := by
  obtain ⟨rfl, ⟨rfl, h2⟩ | ⟨a, vs, rfl, h2, h3⟩⟩ := h
  · rw [h2]
    exact ⟨[], ⟨rfl, .inl ⟨upd_same, rfl⟩⟩, .nil⟩
  · obtain ⟨q1, q2, q3⟩ := prs_split h3
    refine ⟨vs.map (·.2), ⟨q3, .inr ⟨a, upd_same, ?_⟩⟩, prs_dts h3⟩
    rw [upd_ne (ne_of_none h2 na), h2, ← q2]
theorem Xr.fu {K : PySem.W.Frag} {φ φ' : List Addr} {H H' : Hp} {cls : Value} {d : Option Addr} {x : Xc} (f : Fu K φ φ' H H') (h : Xr K φ H cls d x) : Xr K φ' H' cls d x := by
  obtain ⟨h1, h2 | ⟨a, vs, h2, h3, h4⟩⟩ := h
  · exact ⟨h1, .inl h2⟩
  · exact ⟨h1, .inr ⟨a, vs, h2, f.gd _ _ h3, h4.fu f⟩⟩
section
variable {X : Cx} {W0 : WX} {x n m : Str} {cv : Value} {i j : Nat} {body : List Stmt} {p1 p2 p3 np pos pos' : Pos} {db : DS} {L : List Addr}
theorem ds_tryK (stk : X.stack = X.env :: X.outer) (frm : X.env.frame = some X.env.locals) (nd : X.N.Nodup) (ij : i ≠ j) (hL : ∀ c ∈ L, PySem.W.exmOne X.K (.ref c) cv = some true) (nc : Names X x cv)
    (hb : ∀ (W : WX) (pn : List (Addr × Obj)) (xe : Value → Shared → Prop), Takes (X.tr pn xe) W → PassesOwn (model X.prog X.w) X.A X.env xe → DSs (X.tr pn xe) W body db)
    (su : ∀ (e : Addr) (pn : List (Addr × Obj)), DSt (X.suite e pn) (fun _ _ _ _ => False) (.Assign [.Name m p1] (.Name n p2) p3) (dAsg (dVar i) (gN j)))
    (ni : X.N[i]? = some n := by rfl) (nl : X.env.kindOf n = some .local := by rfl) (hex : X.ex = [] := by rfl) :
    DSt X W0 (.Try body [.ExceptHandler (some (.Name x np)) (some n) [.Assign [.Name m p1] (.Name n p2) p3] pos'] [] [] pos) (dTryK L i j db) := by
  refine ps_imp (ps_try_kept (tb := fun W => upS X.K W db) (ts := fun _ _ _ => upS X.K (fun _ _ _ _ => False) (dAsg (dVar i) (gN j))) stk frm nd ni nl nc hex hb (fun e oe cls d pn _ _ => dss_one (su e ((e, oe) :: pn)))) ?_
  intro D σ H ⟨Δ, φ, s, hσ, hs, h⟩
  refine ⟨Δ, φ, s, hσ, hs, ?_⟩
  unfold dTryK at h
  cases r : db Δ s with
  | none => rw [r] at h; exact h.elim
  | some q =>
    obtain ⟨r1, s1⟩ := q
    rw [r] at h
    cases r1 with
    | nx Δ1 => exact h
    | rt d => exact h
    | bk Δ1 => exact h
    | ct Δ1 => exact h
    | ex xx Δ1 =>
      simp only at h
      split at h
      · rename_i hc
        obtain ⟨hc1, hi, hj⟩ := hc
        intro φ1 σ1 H1 c dd f1 so1 sg1 xr
        have hcl := xr.1
        subst hcl
        refine ⟨hL _ hc1, fun e na => ?_⟩
        refine ⟨Δ1.set i (some (.adr e)), φ1, s1, sg1.set (.adr e) i, so1, ?_⟩
        have hv : dAsg (dVar i) (gN j) (Δ1.set i (some (.adr e))) s1 = some (.nx ((Δ1.set i (some (.adr e))).set j (some (.adr e))), s1) := by
          unfold dAsg sbind dVar gN
          rw [List.getElem?_set_self hi]
        rw [hv]
        intro φ2 σ2 H2 f2 so2 sg2 na2
        obtain ⟨vs, ev, rv⟩ := (xr.fu f2).exv na2
        have f3 : Fu X.K φ2 φ2 H2 (upd H2 e (ExK (.ref xx.cls) dd e)) := fu_new na2
        refine h φ2 _ _ ((f1.trans f2).trans f3) (so2.new na2) ⟨?_, fun k d hk => ?_⟩
        · have q := sg2.len
          simp only [List.length_set] at q ⊢
          exact q
        · by_cases ki : k = i
          · subst ki
            rw [List.getElem?_set_self (by simp; exact hi)] at hk
            cases hk
          · rw [List.getElem?_set_ne (fun z => ki z.symm)] at hk ⊢
            by_cases kj : k = j
            · subst kj
              rw [List.getElem?_set_self hj] at hk
              cases hk
              obtain ⟨v, hv1, hv2⟩ := sg2.get k (.adr e) (by rw [List.getElem?_set_self (by simp; exact hj)])
              cases hv2
              exact ⟨.ref e, hv1, .exc ev (rv.fu f3)⟩
            · rw [List.getElem?_set_ne (fun z => kj z.symm)] at hk
              obtain ⟨v, hv1, hv2⟩ := sg2.get k d (by rw [List.getElem?_set_ne (fun z => kj z.symm), List.getElem?_set_ne (fun z => ki z.symm)]; exact hk)
              exact ⟨v, hv1, hv2.fu f3⟩
      · exact h.elim
end
end DV

set_option maxHeartbeats 2000000
namespace DV
open PySem L2 PyProof.Rows
/-! ### isinstance of a caught exception -/
/-- what isinstance says of instances of the exception class c, asked for the class C: b -/
structure IsX (K : PySem.W.Frag) (C c : Addr) (b : Bool) : Prop where
  ex : ExcC K c
  one : PySem.W.kitOne K (.ref c) (.ref C) = some b
/-- the class C of exceptions; those of Y are instances, those of N are not -/
def fIsiX (C : Addr) (Y N : List Addr) : OpN := fun xs s => match xs with
  | [x, .adr c] => if c = C then match x with
    | .exc k _ _ => if k ∈ Y then some (.bl true, s) else if k ∈ N then some (.bl false, s) else none
    | x => match kdOf x s with
      | some _ => some (.bl false, s)
      | none => none
    else none
  | _ => none
def rIsX (K : PySem.W.Frag) : List V → Hp → VK → Prop := fun xs H Q => ∃ (e C c : Addr) (ks : List Str) (vs : List V) (b : Bool), xs = [.ref e, .ref C] ∧ ExV H e c ks vs ∧ IsX K C c b ∧ Q (.bl b) H
section
variable {X : Cx} {W : WX}
theorem inst_exc {pins : List (Addr × Obj)} {σ : L2.St} {H : Hp} {s : Shared} {e c : Addr} {ks : List Str} {vs : List V} (I : Inv X pins σ H s) (h : ExV H e c ks vs) : ∃ oe od, PySem.W.InstAt s.heap e oe c od := by
  have key : ∀ d, H e = some (ExK (.ref c) d e) → (∀ a, d = some a → ∃ fs, H a = some (.xd fs)) → ∃ oe od, PySem.W.InstAt s.heap e oe c od := by
    intro d h1 h2
    obtain ⟨⟨oe, fl, q1, q2, q3⟩, _⟩ := I.hok e _ h1
    obtain ⟨oc, odd, oda, osl⟩ := oe
    obtain ⟨z1, z2⟩ := q2
    dsimp only at z1 z2 q3
    subst z1 z2 q3
    cases odd with
    | none => exact ⟨_, none, q1, rfl, rfl, trivial⟩
    | some a =>
      obtain ⟨fs, hx⟩ := h2 a rfl
      obtain ⟨mA, n1, _⟩ := I.hok a _ hx
      obtain ⟨o, ho⟩ : ∃ o, s.heap.get? a = some o := by
        obtain ⟨o, _, _, ho, _⟩ := n1
        exact ⟨o, ho⟩
      exact ⟨_, some o, q1, rfl, rfl, ho⟩
  rcases h.2 with ⟨h1, _⟩ | ⟨d, h1, h2⟩
  · exact key none h1 fun a z => nomatch z
  · exact key (some d) h1 fun a z => by cases z; exact ⟨_, h2⟩
theorem call_isX : CallR X (.builtin "isinstance") (rIsX X.K) := by
  intro pins s σ H xs us Q I r h
  obtain ⟨e, C, c, ks, vs, b, rfl, hv, hx, q⟩ := h
  obtain ⟨u1, u2, rfl, r1, r2⟩ := vals2 r
  cases (show u1 = Value.ref e from r1)
  cases (show u2 = Value.ref C from r2)
  obtain ⟨oe, od, J⟩ := inst_exc I hv
  have E := hx.ex
  have hcl : (PySem.W.clsIn X.K c).isSome = true := by
    obtain ⟨cd, hc, _⟩ := PySem.W.any_some E.hd
    rw [hc]
    rfl
  exact PySem.W.kia_one (PySem.W.kitx_exc hcl E.hg E.hk E.hs E.ha E.hn E.ht E.hm) I.kIn J hx.one (fun z => nomatch z) fun tk => ⟨.bl b, H, I.tok tk, rfl, q⟩
theorem dc_isiX {C : Addr} {Y N : List Addr} (c : PySem.W.isClsIn X.K C = true) (ct : PySem.W.typeIn X.K (.ref C) = some (.type "type")) (hY : ∀ k ∈ Y, IsX X.K C k true) (hN : ∀ k ∈ N, IsX X.K C k false) : DCall X (.builtin "isinstance") (fIsiX C Y N) := by
  have un : ∀ k : Kd, PySem.W.kitOne X.K (.type k.name) (.ref C) = some false := by
    intro k
    have h : ((PySem.W.clsIn X.K C).isSome && PySem.W.typeIn X.K (.ref C) == some (.type "type")) = true := by
      unfold PySem.W.isClsIn at c
      rw [c, ct]
      decide
    unfold PySem.W.kitOne PySem.W.kitCls
    rw [show (Value.type k.name == Value.ref C) = false from rfl]
    simp only [Bool.false_eq_true, if_false, h, if_true]
    exact sub_kd k
  refine ⟨fun xs H Q => rIsX X.K xs H Q ∨ rIsi X.K xs H Q, fun pins s σ H xs us Q I r h => ?_, fun φ H s vs ds Q so rx p => ?_⟩
  · rcases h with h | h
    · exact call_isX pins s σ H xs us Q I r h
    · exact call_isi pins s σ H xs us Q I r h
  · unfold fIsiX at p
    split at p
    · rename_i x cc
      obtain ⟨v, u, rfl, r1, r2⟩ := dts2 rx
      split at p
      · rename_i z
        subst z
        cases r2
        split at p
        · rename_i k ks ds2
          cases r1
          rename_i e ws h1 h2
          left
          split at p
          · rename_i hk
            exact ⟨e, cc, k, ks, ws, true, rfl, h1, hY k hk, p.ok so (.bl _)⟩
          · split at p
            · rename_i hk
              exact ⟨e, cc, k, ks, ws, false, rfl, h1, hN k hk, p.ok so (.bl _)⟩
            · exact p.elim
        · split at p
          · rename_i k e
            right
            exact ⟨v, .ref cc, .type k.name, .ref cc, false, rfl, .own cc, kd_ty so r1 e, un k, p.ok so (.bl _)⟩
          · exact p.elim
      · exact p.elim
    · exact p.elim
/-! ### e.f of a caught exception -/
/-! ### is of bools and None -/
def fIsB : Op2 := fun x y s => match x, y with
  | .bl a, .bl b => some (.bl (decide (a = b)), s)
  | .non, .bl _ => some (.bl false, s)
  | _, _ => none
def fNotB : Op2 := fun x y s => match x, y with
  | .bl a, .bl b => some (.bl (!decide (a = b)), s)
  | .non, .bl _ => some (.bl true, s)
  | _, _ => none
theorem op_isNB : OpR X (compareOp .Is) (fun x y H Q => ∃ b : Bool, x = .non ∧ y = .bl b ∧ Q (.bl false) H) := by
  intro pins s σ H x y v u Q I rx ry h
  obtain ⟨b, rfl, rfl, q⟩ := h
  cases (show v = Value.none from rx)
  cases (show u = Value.bool b from ry)
  exact wpAny_is_other rfl (fun z => nomatch z) ⟨.bl false, H, I, rfl, q⟩
theorem op_notNB : OpR X (compareOp .IsNot) (fun x y H Q => ∃ b : Bool, x = .non ∧ y = .bl b ∧ Q (.bl true) H) := by
  intro pins s σ H x y v u Q I rx ry h
  obtain ⟨b, rfl, rfl, q⟩ := h
  cases (show v = Value.none from rx)
  cases (show u = Value.bool b from ry)
  exact wpAny_isNot_other rfl (fun z => nomatch z) ⟨.bl true, H, I, rfl, q⟩
theorem dop_isB : DOp X (compareOp .Is) fIsB := ⟨_, op_isBl.or op_isNB, fun φ H s x y v u Q so rx ry p => by
  cases rx <;> cases ry <;> first | exact p.elim | skip
  · exact .inr ⟨_, rfl, rfl, p.ok so (.bl _)⟩
  · exact .inl ⟨_, _, rfl, rfl, p.ok so (.bl _)⟩⟩
theorem dop_notB : DOp X (compareOp .IsNot) fNotB := ⟨_, op_notBl.or op_notNB, fun φ H s x y v u Q so rx ry p => by
  cases rx <;> cases ry <;> first | exact p.elim | skip
  · exact .inr ⟨_, rfl, rfl, p.ok so (.bl _)⟩
  · exact .inl ⟨_, _, rfl, rfl, p.ok so (.bl _)⟩⟩
/-! ### a tuple several times -/
def fRepT : Op2 := fun x y s => match x, y with
  | .tup xs, .int k => if xs.isEmpty = false ∧ 2 ≤ k ∧ k ≤ 1000 ∧ xs.length ≤ 1000 then some (.tup (List.replicate k.toNat xs).flatten, s) else none
  | _, _ => none
theorem dop_repT : DOp X (binaryOp .Mult) fRepT := ⟨_, op_repT, fun φ H s x y v u Q so rx ry p => by
  cases rx <;> cases ry <;> first | exact p.elim | skip
  rename_i a vs xs h r k
  simp only [fRepT] at p
  split at p
  · rename_i z
    obtain ⟨z1, z2, z3, z4⟩ := z
    exact ⟨a, k, vs, rfl, rfl, h, r.ne_nil z1, z2, z3, by rw [r.length]; exact z4, fun q hq => p _ _ _ (fu_new hq) (so.new hq) (.tup (.inl (.inl upd_same)) ((r.flat _).fu (fu_new hq)))⟩
  · exact p.elim⟩
end
theorem kit1 {K : PySem.W.Frag} {C c : Addr} {b : Bool} (ci : PySem.W.isClsIn K C = true) (ty : PySem.W.typeIn K (.ref C) = some (.type "type")) (sC : PySem.W.subIn K (.ref C) (.ref C) = some true) (h : PySem.W.subIn K (.ref c) (.ref C) = some b) : PySem.W.kitOne K (.ref c) (.ref C) = some b := by
  have q : ((PySem.W.clsIn K C).isSome && PySem.W.typeIn K (.ref C) == some (.type "type")) = true := by
    unfold PySem.W.isClsIn at ci
    rw [ci, ty]
    decide
  unfold PySem.W.kitOne PySem.W.kitCls
  by_cases z : (Value.ref c == Value.ref C) = true
  · rw [if_pos z]
    have e : c = C := Value.ref.inj (beq_iff_eq.mp z)
    subst e
    exact sC.symm.trans h
  · rw [if_neg z]
    simp only [q, if_true]
    exact h
theorem exm1 {K : PySem.W.Frag} {C c : Addr} (h1 : PySem.W.subIn K (.ref C) (.type "BaseException") = some true) (hd : PySem.W.hasDictIn K C = true) (ht : PySem.W.typeIn K (.ref C) = some (.type "type")) (h : PySem.W.subIn K (.ref c) (.ref C) = some true) : PySem.W.exmOne K (.ref c) (.ref C) = some true :=
  PySem.W.exm_ref h1 hd ht h
theorem all_nil {p : Addr → Prop} : ∀ k ∈ ([] : List Addr), p k := fun _ h => nomatch h
theorem all_cons {p : Addr → Prop} {a : Addr} {r : List Addr} (h : p a) (hr : ∀ k ∈ r, p k) : ∀ k ∈ a :: r, p k := fun k hk => by
  rcases List.mem_cons.mp hk with rfl | hk
  · exact h
  · exact hr k hk
end DV

set_option maxHeartbeats 2000000
namespace DV
open PySem L2 PyProof.Rows
/-! ### an own exception class whose __init__ is: B.__init__(self, '..'); self.f = f -/
section
variable {X : Cx} {B : Str} {RB : Addr} {e : Expr} {es : List Expr} {ta : TA} {p1 p2 pos : Pos}
/-- what the class B says, of whose __init__ another one's makes use -/
structure BaseI (K : PySem.W.Frag) (RB : Addr) : Prop where
  sp : PySem.W.specialIn K (.ref RB) "__getattribute__" = some (some (.builtin "type.__getattribute__"))
  rd : PySem.W.readsIn K RB (.type "type") = true
  fc : PySem.W.findCls K (.ref RB) (.type "type") "__init__" = some (.val (.builtin "ValueError.__init__"))
theorem pe_einit {pl : Sem Bool} (T : BaseI X.K RB) (hg : Gl X B) (hm : X.mg B = some (.ref RB)) (ha : PA X (e :: es) ta)
    (hc : eval (.Call (.Attribute (.Name B p1) "__init__" p2) (e :: es) [] pos) X.env = (do let ov ← eval (.Name B p1) X.env; standAt p2.atName; let (f, first) ← holding [ov] (getMethod ov "__init__" pl); callWith pos f first (backTo pos (starEach (e :: es) X.env)) (backToKw pos (keywordEach [] X.env))) := by rfl)
    (hdb : (B == ("__debug__" : Str)) = false := by decide) (he : starEach (e :: es) X.env = (false, eval e X.env) :: starEach es X.env := by rfl) (hpl : (backTo pos (starEach es X.env)).any (·.1) = false := by rfl) :
    PE X (.Call (.Attribute (.Name B p1) "__init__" p2) (e :: es) [] pos) (tVeI X.K ta) := by
  constructor
  intro pins s σ H Q I h
  refine PySem.W.methodCall_KW (ld_glob I hg hm ?_ hdb) hc
  refine PySem.W.method_cls I.kIn T.sp (PySem.W.cls_value I.kIn T.rd T.fc (by decide +kernel) ?_)
  have args := ha.run pos pins _ σ H _ (I.tok (s.toks + 1)) h
  refine PyProof.Rows.callWith_method1 (id := "ValueError.__init__") (first := []) (thn args ?_) he hpl
  intro us s1 told
  obtain ⟨vs, H1, I1, r1, a, C, ws, ev, hl, T1, ea, q⟩ := told
  subst ev
  cases r1 with
  | @cons _ u0 _ ur ra rr =>
    obtain rfl : u0 = Value.ref a := ra
    refine oinit_ok T1 I1 ea ?_ fun s' J => ⟨.non, H1, J, rfl, q⟩
    rw [← Paired.length rr, sizeLine_eq]
    omega
end
section
variable {P : Program} {w : World} {K : PySem.W.Frag} {mg : Str → Option Value} {base : Heap}
/-- a def by the rules of its body -/
theorem fn_mkP {x qual : Str} {st : Stmt} {f : Addr} {fd : FuncData} {N ps : List Str} {k : Nat} {sp : Sp} {t : TS} (F : Fun K x qual st f fd) (S : FnScope N ps (defScope st)) (hlen : ∀ vs H Q E, sp vs H Q E → vs.length = ps.length)
    (hb : ∀ (cdv : Value) (A : Around) (outer : List Env) (s : Shared) (H : Hp) (E : XK), Room k (Bx P w K mg base N qual (defScope st) f cdv A outer s H E).A → PSs (Bx P w K mg base N qual (defScope st) f cdv A outer s H E) (defBody st) t)
    (hs : ∀ vs H Q E, sp vs H Q E → t ⟨fun _ H' => Q .non H', Q, fun _ _ => False, fun _ _ => False⟩ (L2.start N vs) H) : FnOk P w K mg base (L2.CX P w) (k + 1) f fd ps sp := by
  constructor
  · exact hlen
  intro A outer s H args us vs Q E hr env0 bind rel hsp
  obtain ⟨oc, od, kV, doc, pm, an, cdv, ct, osl, rfl, lk, hcd⟩ := F.ex
  have olds : ∀ (b : Addr) (o : Obj), base.get? b = some o → s.heap.get? b = some o := fun b o q => (env0.bs b o q).1
  have kin := env0.mod.kin.keeps olds
  have seen : ∀ y ∈ ps.zip us, (defScope st).names.lookup y.1 = some .local ∨ ((defScope st).names.lookup y.1 = some .cell ∧ ((cellsFrom (s.heap.objs.size + 1) (defScope st).names []).lookup y.1).isSome = true) := by
    intro y hy
    rcases S.par y.1 (List.of_mem_zip (a := y.1) (b := y.2) hy).1 with q | q
    · exact .inl q
    · exact .inr ⟨q, PySem.W.cellsFrom_some _ _ _ (.inl q)⟩
  refine codeAny_call_function hr.depth (kin _ _ lk) rfl S.co S.gen rfl (PySem.W.codeRec_of kin hcd) (bind _ _ _ _ ?_)
  refine wpAny_newFunctionEnv_cells S.kind seen ?_
  intro env henv t1 inc
  subst henv
  have body := hb cdv A outer s H E (hr.deeper _)
  have J0 : Inv (Bx P w K mg base N qual (defScope st) f cdv A outer s H E) [] (L2.start N vs) H t1 := inv_start S hr.hd env0 (hlen _ _ _ _ hsp) rel inc
  refine ⟨env0.mod.nolimit.keeps fun b o q => inc.toInCall.keep b o (olds b o q), codeAny_func (wpAny_mono (body.run [] t1 (L2.start N vs) H _ J0 (hs vs H Q E hsp)) ?_ fun _ _ z => z)⟩
  intro fl t2 done
  cases fl with
  | ret u => exact (fun ⟨v, σ', H', J, rv, q⟩ => ⟨v, H', J.os, J.bare, J.base, J.hok, rv, q⟩) done
  | next => exact (fun ⟨σ', H', J, q⟩ => ⟨.non, H', J.os, J.bare, J.base, J.hok, rfl, q⟩) done
  | brk => exact (fun ⟨_, _, _, q⟩ => q.elim) done
  | cont => exact (fun ⟨_, _, _, q⟩ => q.elim) done
/-- what such an __init__ promises -/
def spIn (C : Addr) (f : Str) : Sp := fun vs H Q _ => ∃ (a : Addr) (v : V), vs = [.ref a, v] ∧ H a = some (exo a C none) ∧ ∀ dx, H dx = none → dx ≠ a → Q .non (upd (upd H dx (exd dx [(f, v)])) a (exo a C (some dx)))
theorem fn_einit {qual f n m : Str} {st : Stmt} {fI C : Addr} {fd : FuncData} (F : Fun K "__init__" qual st fI fd) (S : FnScope ["self", n] ["self", n] (defScope st)) (TC : OexC K C) (hno : PySem.W.findIn K (.ref C) f = some none)
    (ok : ∀ (cdv : Value) (A : Around) (outer : List Env) (s : Shared) (H : Hp) (E : XK), PSs (Bx P w K mg base ["self", n] qual (defScope st) fI cdv A outer s H E) (defBody st) (tSeq (tDrop (tVeI K (tCons (tVar 0) (tCons (tC (V.str m)) tNil)))) (tOst K f (tVar 0) (tVar 1)))) :
    FnOk P w K mg base (L2.CX P w) 1 fI fd ["self", n] (spIn C f) := by
  refine fn_mkP (k := 0) F S (fun vs H Q E h => ?_) (fun cdv A outer s H E _ => ok cdv A outer s H E) fun vs H Q E h => ?_
  · obtain ⟨a, v, rfl, _⟩ := h
    rfl
  · obtain ⟨a, v, rfl, h1, h2⟩ := h
    refine ⟨V.ref a, rfl, a, C, [V.str m], rfl, by simp, TC, h1, ?_⟩
    exact ⟨v, rfl, V.ref a, rfl, a, C, rfl, TC, hno, .inl ⟨h1, fun dx n1 n2 => h2 dx n1 n2⟩⟩
end
/-! ### raise C(e), C such a class -/
def dRaiseF (C : Addr) (f : Str) (de : DX) : DS := fun Δ => sbind (de Δ) Δ fun d s => some (.ex ⟨C, [(f, d)]⟩ Δ, s)
/-- what is known of such a class, of its __init__ -/
structure ExcI (X : Cx) (x : Str) (C : Addr) (f n : Str) : Prop where
  oc : OexC X.K C
  gC : X.mg x = some (.ref C)
  fn : ∃ (fI : Addr) (fd : FuncData), PySem.W.findIn X.K (.ref C) "__init__" = some (some (.ref fI)) ∧ PySem.W.typeIn X.K (.ref fI) = some (.type "function") ∧ L2.Binds X.K fd ["self", n] [] ∧ FnOk X.prog X.w X.K X.mg X.base (L2.CX X.prog X.w) 1 fI fd ["self", n] (spIn C f)
theorem upd_del {H : Hp} {a d : Addr} {o1 o2 o3 : HO} (na : H a = none) (ne : d ≠ a) : upd (L2.del (upd (upd H d o1) a o2) a) d o3 = upd H d o3 := by
  funext b
  by_cases h1 : b = d
  · subst h1
    rw [upd_same, upd_same]
  · rw [upd_ne h1, upd_ne h1]
    by_cases h2 : b = a
    · subst h2
      rw [L2.del_same, na]
    · rw [L2.del_ne h2, upd_ne h2, upd_ne h1]
section
variable {X : Cx} {W : WX} {k : Nat}
theorem passes_none : Passes (L2.CX X.prog X.w) X (fun _ _ _ => False) := fun _ _ _ _ _ _ _ h => by
  obtain ⟨_, _, _, _, _, _, _, _, _, _, _, _, z⟩ := h
  exact z.elim
theorem ds_raiseF {x f n : Str} {C : Addr} {e : Expr} {de : DX} {p pos pos2 : Pos} (T : ExcI X x C f n) (hc : X.calm = true) (hr : RoomG (k + 2) X.A) (tk : Takes X W) (he : DE X W e de) (hg : Gl X x := by rfl) (hdb : (x == ("__debug__" : Str)) = false := by decide)
    (hst : starEach [e] X.env = (false, eval e X.env) :: starEach [] X.env := by rfl) : DSt X W (.Raise (some (.Call (.Name x p) [e] [] pos)) none pos2) (dRaiseF C f de) := by
  obtain ⟨fI, fd, i1, i2, i3, i4⟩ := T.fn
  have mk := pmk_oex (pos := pos) (p := p) (e := e) (es := []) (ta := tCons (upE X.K W de) tNil) (dvs := []) (ds := []) T.oc i1 i2 i4 (hr.rm.mono (by omega)) i3 .nil passes_none hg T.gC (pa_cons he pa_nil hst) hdb hst
  refine ps_imp (ps_raise hc tk mk) ?_
  intro D σ H ⟨Δ, φ, s, hσ, hs, h⟩
  refine sbE hσ hs h fun φ1 v H1 d s1 f1 hσ1 hs1 rd h1 => ?_
  refine ⟨by simp, fun a na => ⟨a, v, rfl, upd_same, fun dx n1 n2 => ?_⟩⟩
  have nd : H1 dx = none := by
    rw [upd_ne n2] at n1
    exact n1
  have e1 : upd (upd (upd H1 a (exo a C none)) dx (exd dx [(f, v)])) a (exo a C (some dx)) = upd (upd H1 dx (exd dx [(f, v)])) a (exo a C (some dx)) := by
    funext b
    by_cases h1 : b = a
    · subst h1
      rw [upd_same, upd_same]
    · rw [upd_ne h1, upd_ne h1]
      by_cases h2 : b = dx
      · subst h2
        rw [upd_same, upd_same]
      · rw [upd_ne h2, upd_ne h2, upd_ne h1]
  refine ⟨rfl, dx, [(f, v)], upd_same, by rw [upd_ne n2, upd_same], nd, ?_⟩
  rw [e1, upd_del na n2]
  exact h1 φ1 σ _ (.ref C) (some dx) (fu_new nd) (hs1.new nd) (hσ1.fu (fu_new nd)) ⟨rfl, .inr ⟨dx, [(f, v)], rfl, upd_same, .cons (rd.fu (fu_new nd)) .nil⟩⟩
/-! ### e.f of a caught exception -/
def fFldX (C : Addr) (f : Str) : Op1 := fun x s => match x with
  | .exc c ks ds => if c = C then match (ks.zip ds).lookup f with
    | some d => some (d, s)
    | none => none else none
  | _ => none
/-- the class c's instances have the attribute f in their dict alone -/
structure XfF (K : PySem.W.Frag) (c : Addr) (f : Str) : Prop where
  xf : XfC K c
  no : PySem.W.findIn K (.ref c) f = some none
theorem lookup_rel {φ : List Addr} {H : Hp} {f : Str} {d : D} : ∀ {ks : List Str} {vs : List V} {ds : List D}, Dts X.K φ H vs ds → (ks.zip ds).lookup f = some d → ∃ v, (ks.zip vs).lookup f = some v ∧ Dt X.K φ H v d
  | [], _, _, _, e => by simp at e
  | _ :: _, _, _, .nil, e => by simp at e
  | k :: ks, _, _, .cons (v := v) (vs := vs) (d := d0) (ds := ds) h r, e => by
    rw [List.zip_cons_cons, List.lookup_cons] at e ⊢
    split at e
    · cases e
      exact ⟨v, rfl, h⟩
    · exact lookup_rel r e
theorem pe_fldX {e : Expr} {te : TE} {f : Str} {pos : Pos} (he : PE X e te) (hb : attributeBase e f X.env (eval e X.env) = eval e X.env := by rfl) :
    PE X (.Attribute e f pos) (fun σ H Q => te σ H fun x H1 => ∃ (b c : Addr) (ks : List Str) (vs : List V) (v : V), x = .ref b ∧ ExV H1 b c ks vs ∧ (ks.zip vs).lookup f = some v ∧ XfF X.K c f ∧ Q v H1) := by
  constructor
  intro pins s σ H Q I h
  refine attr_of hb (thn (he.run pins s σ H _ I h) ?_)
  intro u s1 told
  obtain ⟨x, H1, I1, rx, b, c, ks, vs, v, rfl, ⟨_, hv⟩, hl, T, q⟩ := told
  obtain rfl : u = Value.ref b := rx
  rcases hv with ⟨_, rfl⟩ | ⟨dd, h1, h2⟩
  · simp at hl
  · obtain ⟨⟨oe, fl, q1, q2, q3⟩, _⟩ := I1.hok b _ h1
    obtain ⟨mA, hns, hr⟩ := (show ObjOk X.prog X.w H1 s1.heap dd (.xd (ks.zip vs)) from I1.hok dd _ h2)
    obtain ⟨od, ho, look⟩ := lookIn_ns hns
    obtain ⟨w, hw, rw'⟩ := RelO.some_of (v := v) (o := mA f) (by rw [← hl]; exact hr f)
    have J : PySem.W.InstAt s1.heap b oe c (some od) := by
      refine ⟨q1, q2.1, ?_, ?_⟩
      · unfold PySem.W.notCls
        rw [q3]
      · rw [q2.2]
        exact ho
    have own := PySem.W.findObj_own (K := X.K) (od := od) T.xf.hdC T.no rfl (by rw [look, hw])
    exact PySem.HandSPX.exc_get I1.kIn J T.xf.ga T.xf.gg T.xf.exC own (handed_of rw') ⟨v, H1, I1.tok _, rw', q⟩
theorem de_fldX {e : Expr} {dx : DX} {f : Str} {C : Addr} {pos : Pos} (T : XfF X.K C f) (he : DE X W e dx) (hb : attributeBase e f X.env (eval e X.env) = eval e X.env := by rfl) : DE X W (.Attribute e f pos) (dOp1 (fFldX C f) dx) :=
  pe_imp (pe_fldX he hb) fun σ H Q ⟨Δ, φ, s, hσ, hs, h⟩ => upE_bind hσ hs h fun φ1 v H1 x s1 f1 hσ1 hs1 rx h1 => by
    have h2 := PsO.of1 h1
    unfold fFldX at h2
    split at h2
    · rename_i c ks ds
      cases rx
      rename_i b vs hx rs
      split at h2
      · rename_i z
        subst z
        split at h2
        · rename_i d e1
          obtain ⟨w, q1, q2⟩ := lookup_rel rs e1
          exact ⟨b, c, ks, vs, w, rfl, hx, q1, T, h2.ok hs1 q2⟩
        · exact h2.elim
      · exact h2.elim
    · exact h2.elim
end
end DV

set_option maxHeartbeats 2000000
namespace DV
open PySem L2 PyProof.Rows
/-! ### readings that know what lay at the start -/
def upP (K : PySem.W.Frag) (W : WX) (φ0 : List Addr) (H0 : Hp) (de : DX) : TE := fun σ H Q => ∃ Δ φ s, Fu K φ0 φ H0 H ∧ Sg K φ H σ Δ ∧ So K φ H s ∧ Ps K (wAt W σ) (Dt K) φ H (fun _ v H' _ _ => Q v H') (de Δ s)
def upSP (K : PySem.W.Frag) (W : WX) (φ0 : List Addr) (H0 : Hp) (ds : DS) : TS := fun D σ H => ∃ Δ φ s, Fu K φ0 φ H0 H ∧ Sg K φ H σ Δ ∧ So K φ H s ∧ PsS K W D φ H (ds Δ s)
def DEp (X : Cx) (W : WX) (φ0 : List Addr) (H0 : Hp) (e : Expr) (de : DX) : Prop := PE X e (upP X.K W φ0 H0 de)
def DSp (X : Cx) (W : WX) (φ0 : List Addr) (H0 : Hp) (st : Stmt) (ds : DS) : Prop := PS X st (upSP X.K W φ0 H0 ds)
def DSsp (X : Cx) (W : WX) (φ0 : List Addr) (H0 : Hp) (sts : List Stmt) (ds : DS) : Prop := PSs X sts (upSP X.K W φ0 H0 ds)
section
variable {X : Cx} {W : WX} {φ0 : List Addr} {H0 : Hp}
theorem DE.p {e : Expr} {de : DX} (h : DE X W e de) : DEp X W φ0 H0 e de := pe_imp h fun σ H Q ⟨Δ, φ, s, _, a, b, c⟩ => ⟨Δ, φ, s, a, b, c⟩
theorem DSt.p {st : Stmt} {ds : DS} (h : DSt X W st ds) : DSp X W φ0 H0 st ds := ps_imp h fun σ H Q ⟨Δ, φ, s, _, a, b, c⟩ => ⟨Δ, φ, s, a, b, c⟩
theorem DSs.p {sts : List Stmt} {ds : DS} (h : DSs X W sts ds) : DSsp X W φ0 H0 sts ds := pss_imp h fun σ H Q ⟨Δ, φ, s, _, a, b, c⟩ => ⟨Δ, φ, s, a, b, c⟩
theorem seqP {K : PySem.W.Frag} {D : Ends} {a b : DS} {Δ : Dn} {φ : List Addr} {H : Hp} {s : Sto} (f0 : Fu K φ0 φ H0 H) (h : PsS K W D φ H (dSeq a b Δ s)) : PsS K W { D with nx := upSP K W φ0 H0 b D } φ H (a Δ s) := by
  unfold dSeq at h
  cases e : a Δ s with
  | none => rw [e] at h; exact h.elim
  | some p =>
    obtain ⟨q, t⟩ := p
    rw [e] at h
    cases q with
    | nx Δ' => exact fun ψ σ' G f so hg => ⟨Δ', ψ, t, f0.trans f, hg, so, h.shift f⟩
    | rt d => exact h
    | bk d => exact h
    | ct d => exact h
    | ex x d => exact h
theorem dssp_cons {st : Stmt} {rest : List Stmt} {a b : DS} (h1 : DSp X W φ0 H0 st a) (h2 : DSsp X W φ0 H0 rest b) : DSsp X W φ0 H0 (st :: rest) (dSeq a b) :=
  pss_imp (pss_cons h1 h2) fun D σ H ⟨Δ, φ, s, f0, hσ, hs, h⟩ => ⟨Δ, φ, s, f0, hσ, hs, seqP f0 h⟩
theorem dssp_one {st : Stmt} {a : DS} (h1 : DSp X W φ0 H0 st a) : DSsp X W φ0 H0 [st] a := pss_one h1
/-- the first run of two, with what lay at the start -/
theorem sbP {K : PySem.W.Frag} {D : Ends} {φ : List Addr} {H : Hp} {s : Sto} {σ : L2.St} {Δ : Dn} {de : DX} {k : DV.D → Sto → RS} {Q : VK} (f0 : Fu K φ0 φ H0 H) (hσ : Sg K φ H σ Δ) (hs : So K φ H s) (h : PsS K W D φ H (sbind (de Δ) Δ k s))
    (q : ∀ φ1 v H1 d s1, Fu K φ φ1 H H1 → Sg K φ1 H1 σ Δ → So K φ1 H1 s1 → Dt K φ1 H1 v d → PsS K W D φ1 H1 (k d s1) → Q v H1) : upP K W φ0 H0 de σ H Q :=
  ⟨Δ, φ, s, f0, hσ, hs, Ps.mono (fun φ1 v H1 d s1 z => q φ1 v H1 d s1 z.1 (hσ.fu z.1) z.2.1 z.2.2.1 z.2.2.2) (sb hσ h)⟩
theorem dsp_expr {e : Expr} {de : DX} {pos : Pos} (he : DEp X W φ0 H0 e de) (hs : swapsWith e none pos.line X.env = pure false := by rfl) : DSp X W φ0 H0 (.Expr e pos) (dDrop de) :=
  ps_imp (ps_expr he hs) fun D σ H ⟨Δ, φ, s, f0, hσ, hs, h⟩ => sbP f0 hσ hs h fun φ1 v H1 d s1 f1 hσ1 hs1 rd h1 => h1 φ1 _ H1 (Fu.refl _ _) hs1 hσ1
theorem dsp_set {i : Nat} {x : Str} {e : Expr} {de : DX} {pos pos' : Pos} (hN : X.N.Nodup) (he : DEp X W φ0 H0 e de) (hi : X.N[i]? = some x := by rfl) (hx : Loc X.env.scope x := by first | exact Or.inl rfl | exact Or.inr rfl) (hs : swapsWith e (some (.Name x pos')) pos.line X.env = pure false := by rfl)
    (hf : X.fn x = true ∨ X.env.scope.names.lookup x = some .local := by first | exact .inl rfl | exact .inr rfl) : DSp X W φ0 H0 (.Assign [.Name x pos'] e pos) (dAsg de (gN i)) :=
  ps_imp (ps_set hN hi hx he hs hf) fun D σ H ⟨Δ, φ, s, f0, hσ, hs, h⟩ => sbP f0 hσ hs h fun φ1 v H1 d s1 f1 hσ1 hs1 rd h1 => h1 φ1 _ H1 (Fu.refl _ _) hs1 (hσ1.set rd i)
end
section
variable {X : Cx} {W0 : WX} {φ0 : List Addr} {H0 : Hp} {x n m : Str} {cv : Value} {i j : Nat} {body : List Stmt} {p1 p2 p3 np pos pos' : Pos} {db : DS} {L : List Addr}
theorem dsp_tryK (stk : X.stack = X.env :: X.outer) (frm : X.env.frame = some X.env.locals) (nd : X.N.Nodup) (ij : i ≠ j) (hL : ∀ c ∈ L, PySem.W.exmOne X.K (.ref c) cv = some true) (nc : Names X x cv)
    (hb : ∀ (W : WX) (pn : List (Addr × Obj)) (xe : Value → Shared → Prop), Takes (X.tr pn xe) W → PassesOwn (model X.prog X.w) X.A X.env xe → DSsp (X.tr pn xe) W φ0 H0 body db)
    (su : ∀ (e : Addr) (pn : List (Addr × Obj)), DSt (X.suite e pn) (fun _ _ _ _ => False) (.Assign [.Name m p1] (.Name n p2) p3) (dAsg (dVar i) (gN j)))
    (ni : X.N[i]? = some n := by rfl) (nl : X.env.kindOf n = some .local := by rfl) (hex : X.ex = [] := by rfl) :
    DSp X W0 φ0 H0 (.Try body [.ExceptHandler (some (.Name x np)) (some n) [.Assign [.Name m p1] (.Name n p2) p3] pos'] [] [] pos) (dTryK L i j db) := by
  refine ps_imp (ps_try_kept (tb := fun W => upSP X.K W φ0 H0 db) (ts := fun _ _ _ => upS X.K (fun _ _ _ _ => False) (dAsg (dVar i) (gN j))) stk frm nd ni nl nc hex hb (fun e oe cls d pn _ _ => dss_one (su e ((e, oe) :: pn)))) ?_
  intro D σ H ⟨Δ, φ, s, f0, hσ, hs, h⟩
  refine ⟨Δ, φ, s, f0, hσ, hs, ?_⟩
  unfold dTryK at h
  cases r : db Δ s with
  | none => rw [r] at h; exact h.elim
  | some q =>
    obtain ⟨r1, s1⟩ := q
    rw [r] at h
    cases r1 with
    | nx Δ1 => exact h
    | rt d => exact h
    | bk Δ1 => exact h
    | ct Δ1 => exact h
    | ex xx Δ1 =>
      simp only at h
      split at h
      · rename_i hc
        obtain ⟨hc1, hi, hj⟩ := hc
        intro φ1 σ1 H1 c dd f1 so1 sg1 xr
        have hcl := xr.1
        subst hcl
        refine ⟨hL _ hc1, fun e na => ?_⟩
        refine ⟨Δ1.set i (some (.adr e)), φ1, s1, sg1.set (.adr e) i, so1, ?_⟩
        have hv : dAsg (dVar i) (gN j) (Δ1.set i (some (.adr e))) s1 = some (.nx ((Δ1.set i (some (.adr e))).set j (some (.adr e))), s1) := by
          unfold dAsg sbind dVar gN
          rw [List.getElem?_set_self hi]
        rw [hv]
        intro φ2 σ2 H2 f2 so2 sg2 na2
        obtain ⟨vs, ev, rv⟩ := (xr.fu f2).exv na2
        have f3 : Fu X.K φ2 φ2 H2 (upd H2 e (ExK (.ref xx.cls) dd e)) := fu_new na2
        refine h φ2 _ _ ((f1.trans f2).trans f3) (so2.new na2) ⟨?_, fun k d hk => ?_⟩
        · have q := sg2.len
          simp only [List.length_set] at q ⊢
          exact q
        · by_cases ki : k = i
          · subst ki
            rw [List.getElem?_set_self (by simp; exact hi)] at hk
            cases hk
          · rw [List.getElem?_set_ne (fun z => ki z.symm)] at hk ⊢
            by_cases kj : k = j
            · subst kj
              rw [List.getElem?_set_self hj] at hk
              cases hk
              obtain ⟨v, hv1, hv2⟩ := sg2.get k (.adr e) (by rw [List.getElem?_set_self (by simp; exact hj)])
              cases hv2
              exact ⟨.ref e, hv1, .exc ev (rv.fu f3)⟩
            · rw [List.getElem?_set_ne (fun z => kj z.symm)] at hk
              obtain ⟨v, hv1, hv2⟩ := sg2.get k d (by rw [List.getElem?_set_ne (fun z => kj z.symm), List.getElem?_set_ne (fun z => ki z.symm)]; exact hk)
              exact ⟨v, hv1, hv2.fu f3⟩
      · exact h.elim
end
/-! ### the lambda in hand is called -/
/-- work(): its run is wk; the lambda stands at f -/
def dWk (i : Nat) (f : Addr) (wk : M D) : DX := fun Δ s => match Δ[i]? with
  | some (some (.adr g)) => if g = f then wk s else none
  | _ => none
section
variable {X : Cx} {pins : List (Addr × Obj)} {σ : L2.St} {H : Hp} {s : Shared}
/-- the context of the def that got the lambda -/
abbrev Zx (X : Cx) (N : List Str) (qual : Str) (sc : Scope) (g : Addr) (cdv : Value) (s : Shared) (H : Hp) (E : XK) : Cx := Bx X.prog X.w X.K X.mg X.base N qual sc g cdv X.A X.stack s H E
theorem de_act {Ng : List Str} {qg : Str} {sg : Scope} {g f c' : Addr} {cdg pm ctv : Value} {params : Arguments} {body : Expr} {scope : Scope} {k i : Nat} {a : Str} {pn : List (Addr × Obj)} {xe : Value → Shared → Prop} {W : WX} {E : XK} {db : DX} {p1 p2 : Pos} {φ0 : List Addr} {Δ : Dn}
    (I : Inv X pins σ H s) (L : LamX.LamS X.env.scope scope) (hf : s.heap.get? f = some (PySem.W.kla_obj "<lambda>" (X.env.qual ++ "<lambda>") params body scope (cloFrom X.env.cells scope.names []) pm c' ctv)) (hfn : H f = none) (hfr : f ∉ frs X.stack) (hc : H c' = some (LamX.CodeO c' (X.env.qual ++ "<lambda>")))
    (hbind : bindArgs (PySem.W.kla_fn "<lambda>" (X.env.qual ++ "<lambda>") params body scope (cloFrom X.env.cells scope.names []) pm (.ref c') ctv) ⟨[], []⟩ = pure [])
    (tk : Takes ((Zx X Ng qg sg g cdg s H E).tr pn xe) W) (hr : RoomG (k + 1) (Zx X Ng qg sg g cdg s H E).A) (hσ0 : Sg X.K φ0 H σ Δ)
    (hbody : ∀ (s1 : Shared) (HZ : Hp) (E' : XK), RoomG k ((Zx X Ng qg sg g cdg s H E).A.deeper (LamX.lamEnv X scope s1.heap.objs.size f c')) → Takes (LamX.lamCx X (Zx X Ng qg sg g cdg s H E).A (Zx X Ng qg sg g cdg s H E).stack s1 HZ E' scope f c') (EW E') →
      DE (LamX.lamCx X (Zx X Ng qg sg g cdg s H E).A (Zx X Ng qg sg g cdg s H E).stack s1 HZ E' scope f c') (EW E') body db)
    (hN : Ng[i]? = some a := by rfl) (hv : Vis sg a := by first | exact Or.inl rfl | exact Or.inr (Or.inl rfl)) (hd : (a == ("__debug__" : Str)) = false := by decide) (hcd : (a == ("__classdict__" : Str)) = false := by decide) :
    DEp ((Zx X Ng qg sg g cdg s H E).tr pn xe) W φ0 H (.Call (.Name a p1) [] [] p2) (dWk i f (db Δ)) := by
  refine ⟨fun pinsZ sZ σZ HZ Q IZ ⟨ΔZ, φZ, stZ, f0, hσZ, soZ, h⟩ => ?_⟩
  unfold dWk at h
  split at h
  · rename_i g' eΔ
    split at h
    · rename_i eg
      subst eg
      obtain ⟨v0, ev0, rv0⟩ := hσZ.get i _ eΔ
      cases rv0
      refine wpAny_Call_Name_kw (thn ((pe_var (pos := p1) (i := i) hN hv hd hcd).run pinsZ sZ σZ HZ (fun v H1 => v = .ref g' ∧ H1 = HZ) IZ ⟨.ref g', ev0, rfl, rfl⟩) fun u s1 ⟨v, H1, I1, r1, ev, eH⟩ => ?_)
      subst ev eH
      obtain rfl : u = Value.ref g' := r1
      have lies : s1.heap.get? g' = some (PySem.W.kla_obj "<lambda>" (X.env.qual ++ "<lambda>") params body scope (cloFrom X.env.cells scope.names []) pm c' ctv) := I1.base.keep g' _ hf hfn hfr fun z => nomatch (show g' ∈ ([] : List Addr) from z)
      refine PySem.W.callWith_F0 ⟨_, _, _, _, lies⟩ ?_
      have un : Un (frs X.stack) [] H H1 s.heap s1.heap := I1.base
      have hcZ : H1 c' = some (LamX.CodeO c' (X.env.qual ++ "<lambda>")) := f0.ge _ _ hc
      obtain ⟨⟨oc, vs, t, z1, z2, z3⟩, _, _⟩ := I1.hok c' _ hcZ
      have ran : codeAny (model X.prog X.w) (Zx X Ng qg sg g cdg s H E).A (.call (.ref g') ⟨[], []⟩) (CR (L2.CX X.prog X.w) (Zx X Ng qg sg g cdg s H E).stack X.prog X.w H1 s1 Q (WE W σZ)) s1 := by
        refine PySem.W.kla_callFunE hr.rm.depth lies rfl L.co L.gen rfl ⟨c', oc, vs, t, rfl, z1, z2, z3⟩ ?_
        rw [hbind]
        refine wpAny_pure (wpAny_newFunctionEnv (fun y hy => (L.own y hy).2) (fun y hy => absurd hy (by simp)) (fun h₁ hns hsb => ⟨I1.nolimit.fresh _ hsb, ?_⟩) L.kind)
        have kp : ∀ b o, s1.heap.get? b = some o → h₁.get? b = some o := fun b o e => hsb.extBut b o (Nat.ne_of_lt (Heap.lt_size e)) (Heap.get?_push_of_some _ e)
        have J := LamX.lam_start2 (A := (Zx X Ng qg sg g cdg s H E).A) (outer := (Zx X Ng qg sg g cdg s H E).stack) (E := WE W σZ) (f := g') (c' := c') (tk := s1.toks + ([] : List (Str × Value)).length) I L I1.env0 hr.rm.hd un hns kp
        have b := hbody s1 H1 (WE W σZ) (hr.deeper _) (takes_of rfl rfl rfl rfl)
        refine PySem.W.kla_codeExpr (wpAny_mono (b.run [] _ _ H1 Q J ⟨Δ, φZ, stZ, hσ0.fu f0, soZ, h⟩) (fun v s' hq => ?_) fun e s' hq => hq)
        obtain ⟨w', H', J', rv, q⟩ := hq
        exact ⟨w', H', J'.os, J'.bare, J'.base, J'.hok, rv, q⟩
      refine wpAny_call (codeAny_mono ran fun r s2 hq => ?_)
      cases r with
      | error e => exact passAt tk σZ pinsZ H1 s1 e s2 I1 hq
      | ok fl => cases fl with
        | ret u => exact I1.after hq
        | next => exact hq.elim
        | brk => exact hq.elim
        | cont => exact hq.elim
    · exact h.elim
  · exact h.elim
end
end DV

set_option maxHeartbeats 2000000
namespace DV
open PySem L2 PyProof.Rows
/-! ### x(lambda: e) -/
section
variable {K : PySem.W.Frag} {φ : List Addr} {H H' : Hp} {s : Sto}
/-- all but the tables stays -/
theorem fu_ext (e : LamX.ExtN H H') : Fu K φ φ H H' := by
  refine ⟨⟨[], List.append_nil _⟩, fun a xs q => ?_, fun a xs q => ?_, fun a f q => e a _ q fun ps => nofun, fun a f q => e a _ q fun ps => nofun⟩
  · rcases q with (q | ⟨ob, q⟩) | q
    · exact .inl (.inl (e a _ q fun ps => nofun))
    · exact .inl (.inr ⟨ob, e a _ q fun ps => nofun⟩)
    · exact .inr q
  · rcases q with ⟨ob, q⟩ | q
    · exact .inl ⟨ob, e a _ q fun ps => nofun⟩
    · exact .inr q
/-- the tables of the store -/
def tabsOf (s : Sto) : List (Addr × Str) := s.filterMap fun o => match o with
  | .tab P q => some (P, q)
  | _ => none
theorem tabsOf_at {p : Addr × Str} (h : p ∈ tabsOf s) : ∃ n : Nat, s[n]? = some (.tab p.1 p.2) := by
  obtain ⟨o, ho, e⟩ := List.mem_filterMap.mp h
  obtain ⟨n, hn⟩ := List.mem_iff_getElem?.mp ho
  cases o <;> cases e
  exact ⟨n, hn⟩
theorem tabsOf_mem {n : Nat} {P : Addr} {q : Str} (h : s[n]? = some (.tab P q)) : (P, q) ∈ tabsOf s := List.mem_filterMap.mpr ⟨_, List.mem_of_getElem? h, rfl⟩
theorem So.tabs (h : So K φ H s) : LamX.Tabs (tabsOf s) H := fun p hp => by
  obtain ⟨n, hn⟩ := tabsOf_at hp
  obtain ⟨a, _, _, q⟩ := h.ob n _ hn
  exact q
theorem So.tab1 (h : So K φ H s) {n : Nat} {P : Addr} {q : Str} (e : s[n]? = some (.tab P q)) : ∀ p ∈ tabsOf s, p.1 = P → p.2 = q := fun p hp z => by
  obtain ⟨m, hm⟩ := tabsOf_at hp
  obtain ⟨a, ha, ea, _⟩ := h.ob m _ hm
  obtain ⟨b, hb, eb, _⟩ := h.ob n _ e
  have ab : a = b := by rw [ea, eb, z]
  subst ab
  have mn : m = n := (List.getElem?_inj (List.getElem?_eq_some_iff.mp ha).1 h.nd).mp (ha.trans hb.symm)
  subst mn
  rw [e] at hm
  cases hm
  rfl
theorem So.ext (h : So K φ H s) (e : LamX.ExtN H H') (t : LamX.Tabs (tabsOf s) H') : So K φ H' s := ⟨h.len, h.nd, fun n o q => by
  obtain ⟨a, ha, r⟩ := h.ob n o q
  refine ⟨a, ha, ?_⟩
  cases o with
  | lst xs => obtain ⟨vs, z, w⟩ := r; exact ⟨vs, e a _ z fun ps => nofun, w.fu (fu_ext e)⟩
  | ins C fs => obtain ⟨dx, vs, z, w⟩ := r; exact ⟨dx, vs, e a _ z fun ps => nofun, w.fu (fu_ext e)⟩
  | dK kvs => obtain ⟨vs, z, w⟩ := r; exact ⟨vs, e a _ z fun ps => nofun, w.fu (fu_ext e)⟩
  | dT kvs => obtain ⟨vs, z, w⟩ := r; exact ⟨vs, e a _ z fun ps => nofun, w.fu (fu_ext e)⟩
  | tab P q' => exact ⟨r.1, t _ (tabsOf_mem q)⟩⟩
end
/-- x(lambda: e): the table of the def that writes it is the store's first object -/
def dLam (P : Addr) (q : Str) (fM : Addr → M D → M D) (db : DX) : DX := fun Δ s => match (show List DO from s)[0]? with
  | some (DO.tab P' q') => if P' = P ∧ q' = q then fM 0 (db Δ) s else none
  | _ => none
section
variable {X : Cx} {W : WX}
theorem de_lam {x qual a : Str} {st : Stmt} {g c P : Addr} {k : Nat} {fd : FuncData} {Ng : List Str} {params : Arguments} {body : Expr} {scope : Scope} {p lpos pos : Pos} {b : Addr → M D → DS} {fM : Addr → M D → M D} {db : DX}
    (hM : ∀ f wk, fM f wk = runFn Ng.length (b f wk) [.adr f]) (hi : ∀ f wk s, fM f wk s = fM 0 wk s)
    (hm : X.mg x = some (.ref g)) (hk : PySem.W.keepIn X.K (.ref g) = true) (F : Fun X.K x qual st g fd) (S : FnScope Ng [a] (defScope st)) (hb : Binds X.K fd [a] []) (hr : RoomG (k + 2) X.A) (tk : Takes X W)
    (TB : LamX.TabB X.base X.mg c P) (hcode : X.env.code = .ref c) (L : LamX.LamS X.env.scope scope) (hdef : defaultsOf params X.env = ([], []))
    (hbind : ∀ (q : Str) (cl : List (Str × Addr)) (pm cv ctv : Value), bindArgs (PySem.W.kla_fn "<lambda>" q params body scope cl pm cv ctv) ⟨[], []⟩ = pure [])
    (hcal : ∀ (cdv : Value) (f : Addr) (wk : M D) (s : Shared) (H : Hp) (E : XK) (φ0 : List Addr), RoomG (k + 1) (Zx X Ng qual (defScope st) g cdv s H E).A → Takes (Zx X Ng qual (defScope st) g cdv s H E) (EW E) →
      PassesOwn (model X.prog X.w) (Zx X Ng qual (defScope st) g cdv s H E).A (Zx X Ng qual (defScope st) g cdv s H E).env (Zx X Ng qual (defScope st) g cdv s H E).xe →
      (∀ (W' : WX) (pn : List (Addr × Obj)) (xe : Value → Shared → Prop) (p1 p2 : Pos), Takes ((Zx X Ng qual (defScope st) g cdv s H E).tr pn xe) W' → DEp ((Zx X Ng qual (defScope st) g cdv s H E).tr pn xe) W' φ0 H (.Call (.Name a p1) [] [] p2) (dWk 0 f wk)) →
      DSsp (Zx X Ng qual (defScope st) g cdv s H E) (EW E) φ0 H (defBody st) (b f wk))
    (hbody : ∀ (A : Around) (outer : List Env) (s : Shared) (H : Hp) (E : XK) (f c' : Addr), RoomG k (A.deeper (LamX.lamEnv X scope s.heap.objs.size f c')) → Takes (LamX.lamCx X A outer s H E scope f c') (EW E) → DE (LamX.lamCx X A outer s H E scope f c') (EW E) body db)
    (ha0 : Ng[0]? = some a := by rfl) (hva : Vis (defScope st) a := by first | exact Or.inl rfl | exact Or.inr (Or.inl rfl)) (hg : Gl X x := by rfl)
    (hdb : (x == ("__debug__" : Str)) = false := by decide) (hda : (a == ("__debug__" : Str)) = false := by decide) (hca : (a == ("__classdict__" : Str)) = false := by decide) :
    DE X W (.Call (.Name x p) [.Lambda params body scope lpos] [] pos) (dLam P (X.env.qual ++ "<lambda>") fM db) := by
  refine ⟨fun pins s σ H Q I ⟨Δ, φ, stt, hσ, hs, h⟩ => ?_⟩
  unfold dLam at h
  split at h
  · rename_i P' q' e0
    split at h
    · rename_i ePq
      obtain ⟨eP, eq⟩ := ePq
      subst eP eq
      refine wpAny_Call_Name_kw (ld_glob I hg hm ?_ hdb)
      refine PySem.W.callWith_K (h₀ := X.base) I.ok.mod.kin hk ?_ (by rfl) (by rfl)
      refine Calls.spliced_cons (LamX.lam_make2 (T := tabsOf stt) I TB hcode (tabsOf_mem e0) (hs.tab1 e0) hs.tabs hdef (L.has I.ok) fun f c' pm' ctv H1 s1 I1 eN T1 hf hfn hfr hco => ?_)
      refine Calls.spliced_nil ⟨I1.kIn, ?_⟩
      have f1 : Fu X.K φ φ H H1 := fu_ext eN
      have so1 : So X.K φ H1 stt := hs.ext eN T1
      have sg1 : Sg X.K φ H1 σ Δ := hσ.fu f1
      have h1 : Ps X.K (wAt W σ) (Dt X.K) φ H1 (fun _ v H' _ _ => Q v H') (fM f (db Δ) stt) := by
        rw [hi]
        exact h.shift f1
      have ran : codeAny (model X.prog X.w) X.A (.call (.ref g) ⟨[.ref f], []⟩) (CR (L2.CX X.prog X.w) X.stack X.prog X.w H1 s1 Q (WE W σ)) s1 := by
        obtain ⟨oc, od, kV, doc, pm, an, cdv, ct, osl, rfl, lk, hcd⟩ := F.ex
        have env0 := I1.env0
        have kin := I1.kIn
        have bind := hb s1 [.ref f] kin rfl
        have par : ∀ y ∈ [a].zip [Value.ref f], (defScope st).names.lookup y.1 = some .local ∨ ((defScope st).names.lookup y.1 = some .cell ∧ ((cellsFrom (s1.heap.objs.size + 1) (defScope st).names []).lookup y.1).isSome = true) := fun y hy => by
          rcases S.par y.1 (List.of_mem_zip (a := y.1) (b := y.2) hy).1 with q | q
          · exact Or.inl q
          · exact Or.inr (And.intro q (PySem.W.cellsFrom_some _ _ _ (Or.inl q)))
        refine codeAny_call_function hr.rm.depth (kin _ _ lk) rfl S.co S.gen rfl (PySem.W.codeRec_of kin hcd) (bind _ _ _ _ ?_)
        refine wpAny_newFunctionEnv_cells S.kind par fun env henv t1 inc => ?_
        subst henv
        have hr1 : RoomG (k + 1) (Zx X Ng qual (defScope st) g cdv s1 H1 (WE W σ)).A := hr.deeper _
        have cal := hcal cdv f (db Δ) s1 H1 (WE W σ) φ hr1 (takes_of rfl rfl rfl rfl) (passes_of rfl) fun W' pn xe p1 p2 tk' =>
          de_act I1 L hf hfn hfr hco (hbind _ _ _ _ _) tk' hr1 sg1 (fun s2 HZ E' r2 t2 => hbody _ _ s2 HZ E' f c' r2 t2) ha0 hva hda hca
        have J0 : Inv (Zx X Ng qual (defScope st) g cdv s1 H1 (WE W σ)) [] (L2.start Ng [.ref f]) H1 t1 := inv_start (us := [.ref f]) S hr.rm.hd env0 rfl (.cons rfl .nil) inc
        have start : upSP X.K (EW (WE W σ)) φ H1 (b f (db Δ)) { nx := fun _ H' => Q .non H', rt := Q } (L2.start Ng [.ref f]) H1 := by
          refine ⟨startD Ng.length [.adr f], φ, stt, Fu.refl _ _, Sg.start (.cons (.adr f) .nil), so1, ?_⟩
          rw [hM] at h1
          unfold runFn at h1
          cases e : b f (db Δ) (startD Ng.length [.adr f]) stt with
          | none => rw [e] at h1; exact h1.elim
          | some pr =>
            obtain ⟨q, s'⟩ := pr
            rw [e] at h1
            cases q with
            | rt d => exact h1
            | nx Δ => exact fun ψ σ' H' g so' _ => h1 ψ .non H' g so' .non
            | ex x Δ => exact fun ψ σ' H' c dd g so' _ xr => h1 ψ H' c dd g so' xr
            | bk Δ => exact h1.elim
            | ct Δ => exact h1.elim
        have ends : ∀ {σ' : L2.St} {H' : Hp} {v : V} {u : Value} {t2 : Shared}, Inv (Zx X Ng qual (defScope st) g cdv s1 H1 (WE W σ)) [] σ' H' t2 → RelV v u → Q v H' → CE X.stack X.prog X.w H1 s1 Q u t2 := fun {σ' H' v u t2} J rv q => ⟨v, H', J.os, J.bare, J.base, J.hok, rv, q⟩
        refine ⟨env0.mod.nolimit.keeps fun d u e => inc.toInCall.keep d u (env0.bs d u e).1, codeAny_func (wpAny_mono (cal.run [] t1 (L2.start Ng [.ref f]) H1 _ J0 start) (fun fl t2 hs => ?_) fun _ _ hs => hs)⟩
        cases fl with
        | ret u => obtain ⟨v, σ', H', J, rv, q⟩ := hs; exact ends J rv q
        | next => obtain ⟨σ', H', J, q⟩ := hs; exact ends (v := V.non) (u := Value.none) J rfl q
        | brk => obtain ⟨_, _, _, q⟩ := hs; exact q.elim
        | cont => obtain ⟨_, _, _, q⟩ := hs; exact q.elim
      refine wpAny_call (codeAny_mono ran fun r s2 hq => ?_)
      cases r with
      | error e => exact passAt tk σ pins H1 s1 e s2 I1 hq
      | ok fl => cases fl with
        | ret u => exact I1.after hq
        | next => exact hq.elim
        | brk => exact hq.elim
        | cont => exact hq.elim
    · exact h.elim
  · exact h.elim
end
end DV

set_option maxHeartbeats 2000000
namespace DV
open PySem L2 PyProof.Rows
/-! ### repr of an empty dict -/
section
variable {X : Cx}
def fRepr0 : OpN := fun xs s => match xs with
  | [.obj n] => match s[n]? with
    | some (.dK []) => some (.str "{}", s)
    | _ => none
  | _ => none
def rRepr0 : List V → Hp → VK → Prop := fun vs H Q => ∃ a, vs = [.ref a] ∧ H a = some (.dK []) ∧ Q (.str "{}") H
theorem cr_repr0 (hg : X.A.guards = some []) (hu : X.A.units + 66 < cLine) : CallR X (.builtin "repr") rRepr0 := by
  intro pins s σ H vs us Q I r h
  obtain ⟨a, rfl, ha, q⟩ := h
  obtain ⟨u, rfl, rv⟩ := vals1 r
  obtain rfl : u = Value.ref a := rv
  obtain ⟨_, nsys, ws, kv, o, es, ep, h1, hex, h2, h3, h4, h5⟩ := (show ObjOk X.prog X.w H s.heap a (.dK []) from I.hok a _ ha)
  have hcl : o.cls = .type "dict" := hex.1
  cases kv
  have hes : es.toList = [] := by
    cases e : es.toList with
    | nil => rfl
    | cons x r => rw [e] at h4; cases h4
  have rd : Reads s.heap (.ref a) (.dict []) ([a] ++ []) := .dict h1 hcl h2 (by rw [hes]; exact .nil) (by rw [hes]; exact .nil)
  have hdep : (PyData.dict []).depth = 1 := by decide +kernel
  have hlen : (PyData.dict []).shown = "{}" := by decide +kernel
  refine repr_of_reads' rd (by decide +kernel) (fun _ z => ?_) hg (by rw [hdep]; omega) (fun _ _ e => e) (fun h' t tk hk => ⟨.str _, H, I.kept hk, ⟨_, by rw [hlen]⟩, q⟩) (by rw [hlen]; decide +kernel)
  have z' : sysModules = a := by simpa using z
  rw [← z'] at nsys
  simp at nsys
theorem dc_repr0 (hg : X.A.guards = some []) (hu : X.A.units + 66 < cLine) : DCall X (.builtin "repr") fRepr0 := ⟨_, cr_repr0 hg hu, fun φ H s vs ds Q so rx p => by
  unfold fRepr0 at p
  split at p
  · rename_i n
    obtain ⟨v, rfl, r⟩ := dts1 rx
    cases r
    rename_i a ha
    split at p
    · rename_i e
      obtain ⟨b, hb, ws, k, rr⟩ := so.at e
      rw [ha] at hb
      cases hb
      cases rr
      exact ⟨a, rfl, k, p.ok so (.str _)⟩
    · exact p.elim
  · exact p.elim⟩
end
/-! ### a def whose code object is known -/
section
variable {P : Program} {w : World} {K : PySem.W.Frag} {mg : Str → Option Value} {base : Heap}
theorem fn_mkC {x qual : Str} {st : Stmt} {f : Addr} {fd : FuncData} {N ps : List Str} {k n : Nat} {b : DS} {M : FnD} {cv : Value} (hM : M = runFn n b) (hn : N.length = n) (F : Fun K x qual st f fd) (S : FnScope N ps (defScope st)) (hcv : fd.code = cv)
    (hb : ∀ (A : Around) (outer : List Env) (s : Shared) (H : Hp) (E : XK), RoomG k (Bx P w K mg base N qual (defScope st) f cv A outer s H E).A → Takes (Bx P w K mg base N qual (defScope st) f cv A outer s H E) (EW E) →
      PassesOwn (model P w) (Bx P w K mg base N qual (defScope st) f cv A outer s H E).A (Bx P w K mg base N qual (defScope st) f cv A outer s H E).env (Bx P w K mg base N qual (defScope st) f cv A outer s H E).xe →
      DSs (Bx P w K mg base N qual (defScope st) f cv A outer s H E) (EW E) (defBody st) b) : FnG P w K mg base (k + 1) f fd ps M := by
  subst hM hn
  refine ⟨fun A outer s H args us vs Q E hr env0 bind rel hsp => ?_⟩
  obtain ⟨hl, ds, φ, st', rd, so, h⟩ := hsp
  obtain ⟨oc, od, kV, doc, pm, an, cdv, ct, osl, rfl, lk, hcd⟩ := F.ex
  obtain rfl : cdv = cv := hcv
  have old : ∀ (a : Addr) (u : Obj), base.get? a = some u → s.heap.get? a = some u := fun a u e => (env0.bs a u e).1
  have kin := env0.mod.kin.keeps old
  have par : ∀ y ∈ ps.zip us, (defScope st).names.lookup y.1 = some .local ∨ ((defScope st).names.lookup y.1 = some .cell ∧ ((cellsFrom (s.heap.objs.size + 1) (defScope st).names []).lookup y.1).isSome = true) := fun y hy => by
    rcases S.par y.1 (List.of_mem_zip (a := y.1) (b := y.2) hy).1 with q | q
    · exact Or.inl q
    · exact Or.inr (And.intro q (PySem.W.cellsFrom_some _ _ _ (Or.inl q)))
  refine codeAny_call_function hr.rm.depth (kin _ _ lk) rfl S.co S.gen rfl (PySem.W.codeRec_of kin hcd) (bind _ _ _ _ ?_)
  refine wpAny_newFunctionEnv_cells S.kind par fun env henv t1 inc => ?_
  subst henv
  have body := hb A outer s H E (hr.deeper _) (takes_of rfl rfl rfl rfl) (passes_of rfl)
  have J0 : Inv (Bx P w K mg base N qual (defScope st) f cdv A outer s H E) [] (L2.start N vs) H t1 := inv_start S hr.rm.hd env0 hl rel inc
  have start : upS K (EW E) b { nx := fun _ H' => Q .non H', rt := Q } (L2.start N vs) H := by
    refine ⟨startD N.length ds, φ, st', Sg.start rd, so, ?_⟩
    unfold runFn at h
    cases e : b (startD N.length ds) st' with
    | none => rw [e] at h; exact h.elim
    | some p =>
      obtain ⟨q, s'⟩ := p
      rw [e] at h
      cases q with
      | rt d => exact h
      | nx Δ => exact fun ψ σ' H' g so' _ => h ψ .non H' g so' .non
      | ex x Δ => exact fun ψ σ' H' c dd g so' _ xr => h ψ H' c dd g so' xr
      | bk Δ => exact h.elim
      | ct Δ => exact h.elim
  have ends : ∀ {σ' : L2.St} {H' : Hp} {v : V} {u : Value} {t2 : Shared}, Inv (Bx P w K mg base N qual (defScope st) f cdv A outer s H E) [] σ' H' t2 → RelV v u → Q v H' → CE outer P w H s Q u t2 := fun {σ' H' v u t2} J rv q => ⟨v, H', J.os, J.bare, J.base, J.hok, rv, q⟩
  refine ⟨env0.mod.nolimit.keeps fun a u e => inc.toInCall.keep a u (old a u e), codeAny_func (wpAny_mono (body.run [] t1 (L2.start N vs) H _ J0 start) (fun fl t2 hs => ?_) fun _ _ hs => hs)⟩
  cases fl with
  | ret u => obtain ⟨v, σ', H', J, rv, q⟩ := hs; exact ends J rv q
  | next => obtain ⟨σ', H', J, q⟩ := hs; exact ends (v := V.non) (u := Value.none) J rfl q
  | brk => obtain ⟨_, _, _, q⟩ := hs; exact q.elim
  | cont => obtain ⟨_, _, _, q⟩ := hs; exact q.elim
end
/-! ### the end of a law that holds lambdas: its table is the store's first object -/
/-- the run over the data says True for every script -/
def AllTrueT (P : Addr) (q : Str) (fM : FnD) : Prop := ∀ ns : List Int, ns.length ≤ 63 → ∃ s, fM [.fz (ns.map .int)] [.tab P q] = some (.ok (.bl true), s)
theorem So.oneTab {K : PySem.W.Frag} {H : Hp} {P : Addr} {q : Str} (h : LamX.TabS H P q) : So K [P] H [.tab P q] := by
  refine ⟨rfl, by simp, fun n o e => ?_⟩
  have hn : n = 0 := by
    have := (List.getElem?_eq_some_iff.mp e).1
    simpa using this
  subst hn
  cases e
  exact ⟨P, rfl, rfl, h⟩
/-- the law's call at the top, from its run over the data; c its code object, p the table of that -/
theorem law_topT {P : Program} {w : World} {K : PySem.W.Frag} {mg mb : Str → Option Value} {k : Nat} {fa a c p : Addr} {q : Str} {fd : FuncData} {x : Str} {fM : FnD} {t : Shared} {vs : List Value} {ns : List Int} (inK : K.In t.heap) (nsM : t.heap.Ns mainGlobals mg) (nsB : t.heap.Ns builtinsNs mb)
    (boot : ∀ y : Str, y ≠ "__name__" → mb y = bootBuiltins y) (lim : t.heap.NoLimit) (noG : t.gens = #[]) (tabP : t.heap.get? p = some { cls := .none, data := .fields #[] }) (noK : K.lookup p = none) (hd : PySem.W.CodeHd t.heap c p)
    (bm : ∃ (m : Addr) (o : Obj), mg "__builtins__" = some (.ref m) ∧ m ≠ builtinsNs ∧ t.heap.get? m = some o ∧ o.cls = .type "module" ∧ o.dict = some builtinsNs ∧ o.data = .plain)
    (script : t.heap.get? a = some { cls := .type "list", data := .seq vs.toArray }) (hints : IntsAre vs ns) (h63 : ns.length ≤ 63) (hr : RoomG k callerA)
    (F : ∀ base : Heap, K.In base → base.Ns mainGlobals mg → LamX.TabB base mg c p → FnG P w K mg base k fa fd [x] fM) (bind : ∀ (s : Shared) (u : Value), BindsTo s fd ⟨[u], []⟩ [(x, u)]) (hT : AllTrueT p q fM) :
    codeAny (model P w) callerA (.call (.ref fa) ⟨[.ref a], []⟩) (fun r t2 => r = .ok (.ret (.bool true)) ∧ OldK t.heap t2.heap ∧ t2.os = t.os ∧ AllBare t2.gens) t := by
  have vals := vals_ints hints
  have small : ns.length ≤ sizeLine := Nat.le_of_lt (small1000 (by omega))
  have ap : p ≠ a := fun z => by
    rw [z, script] at tabP
    cases tabP
  -- H tracks the table, and the script at most
  have run : ∀ H : Hp, H p = some (.tbl #[]) → (∀ b, b ≠ p → H b = none ∨ ∃ ob xs, H b = some (.frz ob (.lst xs))) → FzL K H a (ns.map V.int) → HOk P w H t.heap → (∀ b, H b ≠ none → b = a ∨ b = p) → (H a ≠ none → K.lookup a = none) →
      codeAny (model P w) callerA (.call (.ref fa) ⟨[.ref a], []⟩) (fun r t2 => r = .ok (.ret (.bool true)) ∧ OldK t.heap t2.heap ∧ t2.os = t.os ∧ AllBare t2.gens) t := fun H hp only fz hok alone free => by
    have untracked : ∀ {b : Addr} {o : Obj}, t.heap.get? b = some o → b ≠ p → (b = a → H a = none) → (hidT t.heap H).get? b = some o := fun {b o} e m n => hidT_get e (by
      cases q : H b with
      | none => rfl
      | some u =>
        rcases alone b (by rw [q]; simp) with z | z
        · rw [z] at q
          rw [n z] at q
          cases q
        · exact absurd z m)
    have plain : ∀ {b : Addr} {o : Obj}, t.heap.get? b = some o → (∀ us n, o.data ≠ .seq us n) → o.data ≠ .fields #[] → (hidT t.heap H).get? b = some o := fun {b o} e n1 n2 => untracked e (fun z => by
      subst z
      rw [tabP] at e
      cases e
      exact n2 rfl) fun z => by
      subst z
      rw [script] at e
      cases e
      exact (n1 _ _ rfl).elim
    have dicts : ∀ {b : Addr} {m : Str → Option Value}, t.heap.Ns b m → (hidT t.heap H).Ns b m := fun {b m} ⟨o, es, ep, e, d, r⟩ => ⟨o, es, ep, plain e (fun us n z => by rw [d] at z; cases z) (fun z => by rw [d] at z; cases z), d, r⟩
    have inB : K.In (hidT t.heap H) := fun b o e => untracked (inK b o e) (fun z => by
      subst z
      rw [noK] at e
      cases e) (fun z => by
      subst z
      cases q : H b with
      | none => rfl
      | some u => rw [free (by rw [q]; simp)] at e; cases e)
    obtain ⟨ml, l1, l2⟩ := lim
    have md : Mod K mg (hidT t.heap H) := ⟨inB, dicts nsM, ⟨mb, dicts nsB, boot⟩, ⟨ml, dicts l1, l2⟩⟩
    have TB : LamX.TabB (hidT t.heap H) mg c p := by
      refine ⟨?_, ?_, fun z => ?_⟩
      · obtain ⟨o, us, file, tf, flags, tg, inF, text, tt, e, c1, c2, c3, c4, c5, c6, c7, c8, c9⟩ := hd
        refine ⟨o, us, file, tf, flags, tg, inF, text, tt, plain e (fun vs n z => ?_) (fun z => ?_), c1, c2, c3, c4, c5, c6, c7, c8, c9⟩
        · rw [c2] at z
          cases z
        · rw [c2] at z
          cases z
          simp at c3
      · obtain ⟨m, o, b1, b2, b3, b4, b5, b6⟩ := bm
        refine ⟨m, o, b1, b2, fun z => ?_, fun z => ?_, plain b3 (fun vs n z => ?_) (fun z => ?_), b4, b5, b6⟩
        · obtain ⟨o', es, ep, e, hd, _⟩ := nsM
          rw [z, e] at b3
          cases b3
          rw [hd] at b6
          cases b6
        · rw [z, tabP] at b3
          cases b3
          cases b6
        · rw [b6] at z
          cases z
        · rw [b6] at z
          cases z
      · obtain ⟨o', es, ep, e, hd, _⟩ := nsM
        rw [z, tabP] at e
        cases e
        cases hd
    have env0 : Env0 P w K mg (hidT t.heap H) callerA [] t H := ⟨rfl, md, fun b o e => of_hidT e, Nat.le_of_eq (hidT_size _ _), trivial, fun b hb => absurd hb (by simp [frs]), hok, .of_eq noG⟩
    obtain ⟨s', hs⟩ := hT ns h63
    have sp : spD K 1 fM [.ref a] H (fun v _ => v = .bl true) fun _ _ _ => False := by
      refine ⟨rfl, [.fz (ns.map .int)], [p], [.tab p q], .cons (.fz fz (Dts.of_ints ns)) .nil, So.oneTab (LamX.TabS.nil hp), ?_⟩
      rw [hs]
      intro φ v H' _ _ rv
      cases rv
      rfl
    refine codeAny_mono ((F _ inB (dicts nsM) TB).run callerA [] t H ⟨[.ref a], []⟩ [.ref a] [.ref a] (fun v _ => v = .bl true) (fun _ _ _ => False) hr env0 (bind t (.ref a)) (.cons rfl .nil) sp) fun r t2 h => ?_
    cases r with
    | error e => exact (no_exc h).elim
    | ok fl => cases fl with
      | next => exact h.elim
      | brk => exact h.elim
      | cont => exact h.elim
      | ret u =>
        obtain ⟨v, H', os, bare, un, hok', rv, ev⟩ := h
        have ev' : v = .bl true := ev
        subst ev'
        obtain rfl : u = Value.bool true := rv
        obtain ⟨more, hm⟩ := un.tbls p #[] hp
        have now : t2.heap.get? p = some { cls := .none, data := .fields more } := by
          have z := hok' p _ hm
          rw [Array.empty_append] at z
          exact z
        have kept : ∀ b o, b ≠ p → t.heap.get? b = some o → t2.heap.get? b = some o := fun b o np e => by
          rcases only b np with z | ⟨ob, xs, z⟩
          · exact un.keep b o e z (fun y => absurd y (by simp [frs])) (by simp)
          · obtain ⟨e1, _⟩ := hok b _ z
            obtain ⟨e2, _⟩ := hok' b _ (un.frzs b ob _ z)
            rw [e] at e1
            cases e1
            exact e2
        refine ⟨rfl, ⟨fun b o e => ?_, fun b o e => ?_⟩, os, bare⟩
        · by_cases hb : b = p
          · subst hb
            rw [tabP] at e
            cases e
            exact .inr (.inl ⟨(hd.tab tabP).isCodeTable, rfl, #[], more, rfl, by rw [Array.empty_append]; exact now⟩)
          · exact .inl (kept b o hb e)
        · by_cases hb : b = p
          · subst hb
            exact ⟨_, now⟩
          · exact ⟨o, kept b o hb e⟩
  cases lk : K.lookup a with
  | some o =>
    have e := inK a o lk
    rw [script] at e
    cases e
    refine run (fun b => if b = p then some (.tbl #[]) else none) (if_pos rfl) (fun b n => .inl (if_neg n)) (.inr (.inr ⟨_, vs.toArray, _, lk, rfl, rfl, rfl, by rw [List.size_toArray, hints.length]; exact small, by simpa using vals⟩)) (fun b u z => ?_) (fun b z => ?_) fun z => absurd (if_neg ap.symm) z
    · by_cases hb : b = p
      · subst hb
        cases (if_pos rfl).symm.trans z
        exact tabP
      · cases (if_neg hb).symm.trans z
    · by_cases hb : b = p
      · exact .inr hb
      · exact absurd (if_neg hb) z
  | none =>
    refine run (fun b => if b = a then some (.frz { cls := .type "list", data := .seq vs.toArray } (.lst (ns.map V.int))) else if b = p then some (.tbl #[]) else none) ((if_neg ap).trans (if_pos rfl)) (fun b n => ?_) (.inl ⟨_, if_pos rfl⟩) (fun b u z => ?_) (fun b z => ?_) fun _ => lk
    · by_cases hb : b = a
      · exact .inr ⟨_, _, if_pos hb⟩
      · exact .inl ((if_neg hb).trans (if_neg n))
    · by_cases hb : b = a
      · subst hb
        cases (if_pos rfl).symm.trans z
        exact ⟨script, by rw [List.length_map]; exact small, vs, _, vals, script⟩
      · have z1 := (if_neg hb).symm.trans z
        by_cases hb2 : b = p
        · subst hb2
          cases (if_pos rfl).symm.trans z1
          exact tabP
        · cases (if_neg hb2).symm.trans z1
    · by_cases hb : b = a
      · exact .inl hb
      · by_cases hb2 : b = p
        · exact .inr hb2
        · exact absurd ((if_neg hb).trans (if_neg hb2)) z
/-- the goal at the law's head -/
theorem walk_topT {l : PySem.W.OpenLaw} {k : Nat} {q : Program} {loose : List Str} {XP : (Str → Option Value) → Heap → Prop} {YP : World → Heap → Prop} {d : DefRec} {K : Params → PySem.W.Frag} {x : Str} (hn : l.most = some 63) (hdf : d.params.defaults = []) (hr : RoomG k callerA)
    (hrec : ((recsOf q).any fun e => e.name == d.name) = true) (hY : ∀ (w : World) (h : Heap), YP w h → (K w.params).In h)
    (F : ∀ (w : World) (mg : Str → Option Value) (fa : Addr) (h : Heap), (K w.params).In h → h.Ns mainGlobals mg → mg d.name = some (.ref fa) → LamX.OwnTab (K w.params) fa h →
      ∃ (fd : FuncData) (fM : FnD) (c p : Addr) (lq : Str), AllTrueT p lq fM ∧ (∀ (s : Shared) (u : Value), BindsTo s fd ⟨[u], []⟩ [(x, u)]) ∧ h.get? p = some { cls := .none, data := .fields #[] } ∧ (K w.params).lookup p = none ∧ PySem.W.CodeHd h c p ∧
        ∀ base : Heap, (K w.params).In base → base.Ns mainGlobals mg → LamX.TabB base mg c p → FnG l.prog w (K w.params) mg base k fa fd [x] fM) :
    PySem.W.WalkO q loose XP YP l.row.toRowW d [] (fun f vs => PySem.call f vs) := by
  refine Att.attach_call hn hdf fun w s₀ t mg mb fa o pm cd doc a vs ns G Y _ _ _ hmg hobj hints hlen noG => ?_
  have inK := hY w _ Y
  have own : LamX.OwnTab (K w.params) fa t.heap := by
    intro c P o1 fd1 e dd us sl k1 k2 k3 k4 k5
    obtain ⟨r, r1, r2⟩ := List.any_eq_true.mp hrec
    obtain ⟨a1, o2, fd2, c2, p2, g1, g2, g3, g4, g5, g6⟩ := G.T.tab r r1
    rw [beq_iff_eq.mp r2, hmg] at g1
    cases g1
    rw [inK _ _ k1] at g2
    cases g2
    rw [k2] at g3
    cases g3
    rw [k3] at g4
    cases g4
    obtain ⟨⟨oc, vc, e1, _, e3, e4⟩, hP⟩ := g6
    rw [inK _ _ k4] at e1
    cases e1
    cases e3
    rw [k5] at e4
    cases e4
    exact hP
  obtain ⟨fd, fM, c, p, lq, hT, hbd, tabP, noK, hd, hF⟩ := F w mg fa _ inK G.T.g hmg own
  exact law_topT inK G.T.g G.T.b G.T.builtins G.T.nolimit noG tabP noK hd G.T.bmain hobj hints hlen hr hF hbd hT
end DV

namespace DV
open PySem L2 PyProof.Rows
/-! ### a def that gets a lambda does not look at it -/
def finS : RS → Rs D
  | some (.rt d, s') => some (.ok d, s')
  | some (.nx _, s') => some (.ok .non, s')
  | some (.ex x _, s') => some (.error x, s')
  | _ => none
theorem runFn_fin (n : Nat) (b : DS) (args : List D) (s : Sto) : runFn n b args s = finS (b (startD n args) s) := by
  unfold runFn finS
  cases b (startD n args) s with
  | none => rfl
  | some p =>
    obtain ⟨q, s'⟩ := p
    cases q <;> rfl
theorem fin_ret {de : DX} {Δ Δ' : Dn} {s : Sto} (h : de Δ = de Δ') : finS (dRet de Δ s) = finS (dRet de Δ' s) := by
  unfold dRet sbind
  rw [h]
  cases de Δ' s with
  | none => rfl
  | some p =>
    obtain ⟨q, s'⟩ := p
    cases q <;> rfl
/-- if t: return e, then b -/
theorem fin_ifret {t : DT} {de : DX} {b : DS} {Δ Δ' : Dn} {s : Sto} (ht : t Δ = t Δ') (h : de Δ = de Δ') (hb : ∀ s, finS (b Δ s) = finS (b Δ' s)) : finS (dSeq (dIfS t (dRet de) dNx) b Δ s) = finS (dSeq (dIfS t (dRet de) dNx) b Δ' s) := by
  unfold dSeq dIfS sbind dRet sbind dNx
  rw [ht, h]
  cases t Δ' s with
  | none => rfl
  | some p =>
    obtain ⟨q, s'⟩ := p
    cases q with
    | error x => rfl
    | ok c =>
      cases c with
      | false => exact hb s'
      | true =>
        dsimp only
        rw [if_pos rfl, if_pos rfl]
        cases de Δ' s' with
        | none => rfl
        | some p =>
          obtain ⟨q, s2⟩ := p
          cases q <;> rfl
end DV

set_option maxHeartbeats 2000000
namespace DV
open PySem L2 PyProof.Rows
/-! ### a short text times a number -/
def fRepS : Op2 := fun x y s => match x, y with
  | .str z, .int k => if z.length ≤ 16 ∧ -(2 ^ 63) ≤ k ∧ k ≤ 1048576 then some (.str (Txt.mul z k), s) else none
  | _, _ => none
def rRepS : R2 := fun x y H Q => ∃ (z : Str) (k : Int), x = .str z ∧ y = .int k ∧ z.length ≤ 16 ∧ -(2 ^ 63) ≤ k ∧ k ≤ 1048576 ∧ Q (.str (Txt.mul z k)) H
section
variable {X : Cx}
theorem op_repS : OpR X (binaryOp .Mult) rRepS := by
  intro pins s σ H x y v u Q I rx ry h
  obtain ⟨z, k, rfl, rfl, h1, h2, h3, q⟩ := h
  obtain ⟨t, rfl⟩ := rx
  obtain ⟨t', rfl⟩ := ry
  exact PySem.W.KXi.mul rfl h1 h2 h3 fun tt m _ _ => ⟨.str _, H, I.tok _, ⟨_, rfl⟩, q⟩
theorem dop_repS : DOp X (binaryOp .Mult) fRepS := ⟨_, op_repS, fun φ H s x y v u Q so rx ry p => by
  cases rx <;> cases ry <;> first | exact p.elim | skip
  rename_i z k
  simp only [fRepS] at p
  split at p
  · rename_i e
    exact ⟨z, k, rfl, rfl, e.1, e.2.1, e.2.2, p.ok so (.str _)⟩
  · exact p.elim⟩
end
end DV

set_option maxHeartbeats 2000000
namespace DV
open PySem L2 PyProof.Rows
/-! ### what is read stands in the heap -/
mutual
theorem reads_at {h : Heap} : ∀ (d : PyData) {v : Value} {as : List Addr}, PySem.W.alike d d = true → Reads h v d as → ∀ b ∈ as, ∃ o, h.get? b = some o
  | .none, _, _, _, r, b, hb => by cases r; cases hb
  | .bool _, _, _, _, r, b, hb => by cases r; cases hb
  | .int _, _, _, _, r, b, hb => by cases r; cases hb
  | .str _, _, _, _, r, b, hb => by cases r; cases hb
  | .list ds, _, _, a, r, b, hb => by
    cases r with
    | list h1 h2 h3 h4 =>
      rcases List.mem_cons.mp hb with z | z
      · rw [z]; exact ⟨_, h1⟩
      · exact readsAll_at ds a h4 b z
  | .tuple ds, _, _, a, r, b, hb => by
    cases r with
    | tuple h1 h2 h3 h4 => exact readsAll_at ds a h4 b hb
  | .dict _, _, _, a, _, _, _ => by cases a
theorem readsAll_at {h : Heap} : ∀ (ds : List PyData) {vs : List Value} {as : List Addr}, PySem.W.alikeAll ds ds = true → ReadsAll h vs ds as → ∀ b ∈ as, ∃ o, h.get? b = some o
  | [], _, _, _, r, b, hb => by cases r; cases hb
  | d :: ds, _, _, a, r, b, hb => by
    have a' : (PySem.W.alike d d && PySem.W.alikeAll ds ds) = true := a
    rw [Bool.and_eq_true] at a'
    cases r with
    | cons h1 h2 =>
      rcases List.mem_append.mp hb with z | z
      · exact reads_at d a'.1 h1 b z
      · exact readsAll_at ds a'.2 h2 b z
end
/-! ### sorted -/
/-- by the order of data: each thing with its datum -/
def sortP {α : Type} (xs : List (α × PyData)) : List α := (xs.mergeSort (PySem.W.dataLe false (·.2))).map (·.1)
def alikeB (ds : List PyData) : Bool := ds.all fun d => ds.all fun e => PySem.W.alike d e
def tup1 : PyData → Bool
  | .tuple (_ :: _) => true
  | _ => false
def notT : PyData → Bool
  | .none => false
  | .tuple _ => false
  | _ => true
/-- they can be sorted -/
def sortOk (ds : List PyData) : Bool := alikeB ds && (ds.all tup1 || ds.all notT) && decide (ds.length ≤ sizeLine) && ds.all fun d => decide (d.depth ≤ 64)
theorem alikeB_all {ds : List PyData} (h : alikeB ds = true) : PySem.W.AllAlike ds := fun d hd e he => by
  unfold alikeB at h
  rw [List.all_eq_true] at h
  have := h d hd
  rw [List.all_eq_true] at this
  exact this e he
theorem sortable_of {ds : List PyData} (h : (ds.all tup1 || ds.all notT) = true) : PySem.W.Sortable ds := by
  rw [Bool.or_eq_true] at h
  rcases h with h | h
  · refine .inl fun d hd => ?_
    have := List.all_eq_true.mp h d hd
    unfold tup1 at this
    split at this
    · exact ⟨_, _, rfl⟩
    · cases this
  · refine .inr fun d hd => ?_
    have := List.all_eq_true.mp h d hd
    unfold notT at this
    split at this
    · cases this
    · cases this
    · rename_i n1 n2
      exact ⟨n1, fun xs e => n2 xs e⟩
theorem each_vals {us : List Value} {vs : List V} {ds : List PyData} (r : Vals vs us) (hl : ds.length = vs.length) : PySem.W.EachIs (fun u (b : V × PyData) => RelV b.1 u) us (vs.zip ds) := by
  induction r generalizing ds with
  | nil => exact .nil
  | cons h t ih =>
    cases ds with
    | nil => simp at hl
    | cons d ds =>
      rw [List.zip_cons_cons]
      exact .cons h (ih (by simpa using hl))
theorem vals_each {us : List Value} {bs : List (V × PyData)} (e : PySem.W.EachIs (fun u (b : V × PyData) => RelV b.1 u) us bs) : Vals (bs.map (·.1)) us := by
  induction e with
  | nil => exact .nil
  | cons h t ih => exact .cons h ih
theorem each_reads {h : Heap} {us : List Value} {vs : List V} {ds : List PyData} {as : List Addr} (hl : ds.length = vs.length) (r : ReadsAll h us ds as) : PySem.W.EachIs (fun u (b : V × PyData) => ∃ as, Reads h u b.2 as) us (vs.zip ds) := by
  induction ds generalizing us vs as with
  | nil => cases r; rw [List.zip_nil_right]; exact .nil
  | cons d ds ih =>
    cases vs with
    | nil => simp at hl
    | cons v vs =>
      cases r with
      | cons h1 h2 =>
        rw [List.zip_cons_cons]
        exact .cons ⟨_, h1⟩ (ih (by simpa using hl) h2)
theorem dpAll_length {K : PySem.W.Frag} {H : Hp} : ∀ {vs : List V} {ds : List PyData}, DpAll K H vs ds → ds.length = vs.length
  | _, _, .nil => rfl
  | _, _, .cons _ r => congrArg (· + 1) (dpAll_length r)
theorem zip_snd {α β : Type} : ∀ {as : List α} {bs : List β}, bs.length = as.length → (as.zip bs).map (·.2) = bs
  | [], [], _ => rfl
  | _ :: _, [], h => by simp at h
  | [], _ :: _, h => by simp at h
  | a :: as, b :: bs, h => by
    rw [List.zip_cons_cons, List.map_cons, zip_snd (by simpa using h)]
section
variable {X : Cx} {W : WX} {pins : List (Addr × Obj)} {σ : L2.St} {H : Hp} {s : Shared}
/-- what is left of sorted(xs) when the items us are in hand -/
theorem sort_tail {vs : List V} {us : List Value} {ds : List PyData} {E : Value → Shared → Prop} {Q : VK} (I : Inv X pins σ H s) (rv : Vals vs us) (hd : DpAll X.K H vs ds) (ok : sortOk ds = true) (hu : X.A.units + 66 < cLine)
    (q : ∀ p, H p = none → Q (.ref p) (upd H p (.lst (sortP (vs.zip ds))))) :
    wpAny (model X.prog X.w) X.A.in1 (do let l ← newList us; let _ ← holding [l] (call (.builtin "list.sort") [l] []); PySem.ret l) (fun f s' => ∃ u, f = PySem.Fin.done (.ret u) ∧ ∃ v H', Inv X pins σ H' s' ∧ RelV v u ∧ Q v H') E s := by
  unfold sortOk at ok
  rw [Bool.and_eq_true, Bool.and_eq_true, Bool.and_eq_true] at ok
  obtain ⟨⟨⟨o1, o2⟩, o3⟩, o4⟩ := ok
  have hal := alikeB_all o1
  have hk := sortable_of o2
  have hL : ds.length ≤ sizeLine := of_decide_eq_true o3
  have hl := dpAll_length hd
  have lu : us.length = vs.length := (Paired.length rv).symm
  have zs : (vs.zip ds).map (·.2) = ds := zip_snd hl
  have zl : (vs.zip ds).length = ds.length := by rw [← congrArg List.length zs, List.length_map]
  obtain ⟨as, rd⟩ := Dp.readsAll I ds vs us hd rv
  have free : s.heap.get? s.heap.objs.size = none := by
    cases e : s.heap.get? s.heap.objs.size with
    | none => rfl
    | some o => exact absurd (Heap.lt_size e) (Nat.lt_irrefl _)
  refine wpAny_bind (wpAny_newList ?_ (by rw [lu, ← hl]; exact hL))
  have hoL : (s.heap.push (seqObj "list" us.toArray 0)).get? s.heap.objs.size = some (seqObj "list" us.toArray 0) := Heap.get?_push_size _ rfl
  have er : PySem.W.EachIs (fun u (b : V × PyData) => ∃ as, Reads (s.heap.push (seqObj "list" us.toArray 0)) u b.2 as ∧ s.heap.objs.size ∉ as) us (vs.zip ds) := by
    refine (PySem.W.each_mem (each_reads hl rd)).mono fun u b ⟨⟨as, r⟩, hb⟩ => ⟨as, PyProof.Rows.Reads.keeps (fun c o e => Heap.get?_push_of_some _ e) r, fun z => ?_⟩
    have hm : b.2 ∈ ds := by rw [← zs]; exact List.mem_map.mpr ⟨b, hb, rfl⟩
    obtain ⟨o, e⟩ := reads_at b.2 (hal _ hm _ hm) r _ z
    rw [free] at e
    cases e
  show wpAny _ _ _ _ _ { s with heap := s.heap.push (seqObj "list" us.toArray 0) }
  refine wpAny_bind (wpAny_holding ?_)
  refine PySem.W.list_sort_data (s := { s with heap := s.heap.push (seqObj "list" us.toArray 0) }) (enc := (·.2)) hoL (each_vals rv hl) er (by rw [zs]; exact hal) (by rw [zs]; exact hk) (by rw [zl]; exact hL) (fun b hb => ?_) fun out hlen he => ?_
  · have hm : b.2 ∈ ds := by rw [← zs]; exact List.mem_map.mpr ⟨b, hb, rfl⟩
    have := of_decide_eq_true (List.all_eq_true.mp o4 _ hm)
    show X.A.units + 1 + 1 + b.2.depth < cLine
    omega
  · obtain ⟨e', he'⟩ := PyProof.Rows.sortedHeap_at (vs := us) (out := List.toArray out) hoL
    refine wpAny_pure ⟨_, rfl, .ref s.heap.objs.size, upd H s.heap.objs.size (.lst (sortP (vs.zip ds))), I.laid (t' := s.toks) (fun b u e => ?_) (Nat.le_refl _)
      (show ObjOk X.prog X.w _ _ _ (.lst (sortP (vs.zip ds))) from ⟨?_, out, e', vals_each he, he'⟩), rfl, q _ (I.hok.fresh (Nat.le_refl _))⟩
    · have hb : b < s.heap.objs.size := Heap.lt_size e
      rw [PyProof.Rows.sortedHeap_old (Nat.ne_of_lt hb) (by rw [size_push']; exact Nat.lt_succ_of_lt hb)]
      exact Heap.get?_push_of_some _ e
    · unfold sortP
      rw [List.length_map, List.length_mergeSort, zl]
      exact hL
/-! ### the keys of a dict with tuple keys -/
def keyP : Key → PyData
  | .inl i => .int i
  | .inr x => .str x
def keyD' : Key → D
  | .inl i => .int i
  | .inr x => .str x
theorem kV_dp {K : PySem.W.Frag} : ∀ ks : List Key, DpAll K H (ks.map kV) (ks.map keyP)
  | [] => .nil
  | .inl i :: r => .cons (.int i) (kV_dp r)
  | .inr x :: r => .cons (.str x) (kV_dp r)
theorem kV_dts {K : PySem.W.Frag} {φ : List Addr} : ∀ ks : List Key, Dts K φ H (ks.map kV) (ks.map keyD')
  | [] => .nil
  | .inl i :: r => .cons (.int i) (kV_dts r)
  | .inr x :: r => .cons (.str x) (kV_dts r)
theorem keys_kV {K : PySem.W.Frag} {φ : List Addr} : ∀ {ds : List D} {vs : List V} {ks : List Key}, Dts K φ H vs ds → omap keyD ds = some ks → vs = ks.map kV
  | [], _, _, .nil, e => by cases e; rfl
  | d :: ds, _, _, .cons h r, e => by
    simp only [omap] at e
    split at e
    · rename_i k kr e1 e2
      cases e
      rw [List.map_cons, keyD_kV h e1, keys_kV r e2]
    · cases e
def dtAt (s : Sto) (n : Nat) : Option (List (List Key × D)) := match s[n]? with
  | some (.dT xs) => some xs
  | _ => none
theorem dtAt_eq {s : Sto} {n : Nat} {xs : List (List Key × D)} (h : dtAt s n = some xs) : s[n]? = some (.dT xs) := by
  unfold dtAt at h
  split at h
  · cases h; assumption
  · cases h
theorem So.dt {K : PySem.W.Frag} {φ : List Addr} {H : Hp} {s : Sto} (h : So K φ H s) {n : Nat} {xs : List (List Key × D)} (e : dtAt s n = some xs) {a : Addr} (ha : φ[n]? = some a) : ∃ vs, H a = some (.dT vs) ∧ Prs (Dt K φ H) vs xs := by
  obtain ⟨b, hb, q⟩ := h.ob _ _ (dtAt_eq e)
  rw [ha] at hb
  cases hb
  exact q
theorem Prs.keys {κ : Type} {R : V → D → Prop} : ∀ {vs : List (κ × V)} {ds : List (κ × D)}, Prs R vs ds → vs.map (·.1) = ds.map (·.1)
  | _, _, .nil => rfl
  | _, _, .cons _ r => by rw [List.map_cons, List.map_cons, r.keys]
def isE {α : Type} : Option (List α) → Bool
  | some [] => true
  | _ => false
theorem isE_some {α : Type} {o : Option (List α)} (h : isE o = true) : o = some [] := by
  unfold isE at h
  split at h
  · rfl
  · cases h
/-- {(..): c}, one entry with a tuple and a constant -/
def dDT1 (da : DA) (d : D) : DX := fun Δ => mbind (mnew (.dT [])) fun o => mbind (da Δ) fun xs s => match o with
  | .obj n => match omap keyD xs with
    | some k => if xs.length ≤ sizeLine ∧ isE (dtAt s n) = true then some (.ok (.obj n), s.set n (.dT [(k, d)])) else none
    | none => none
  | _ => none
/-- d[a, b, ..] = v -/
def dDPutT (dx : DX) (da : DA) (dv : DX) : DS := fun Δ => sbind (dv Δ) Δ fun v => sbind (dx Δ) Δ fun x => sbind (da Δ) Δ fun ys s => match x with
  | .obj n => match dtAt s n with
    | some kvs => match omap keyD ys with
      | some k => if kvs.length < sizeLine ∧ ys.length ≤ sizeLine then some (.nx Δ, s.set n (.dT (putKD kvs k v))) else none
      | none => none
    | none => none
  | _ => none
/-- sorted(d), d with tuple keys -/
def fSortedT : OpN := fun xs s => match xs with
  | [.obj n] => match dtAt s n with
    | some kvs => if sortOk (kvs.map fun kv => .tuple (kv.1.map keyP)) = true then some (.obj s.length, s ++ [.lst (sortP (kvs.map fun kv => (D.tup (kv.1.map keyD'), PyData.tuple (kv.1.map keyP))))]) else none
    | none => none
  | _ => none
/-- sorted(xs), of a list of plain data -/
def fSortedL : OpN := fun xs s => match xs with
  | [.obj n] => match lstAt s n with
    | some ys => match omap (toPy s 64) ys with
      | some ps => if sortOk ps = true then some (.obj s.length, s ++ [.lst (sortP (ys.zip ps))]) else none
      | none => none
    | none => none
  | _ => none
end
/-! ### {(..): c} -/
def GoodT1 (Q : VK) (p : Addr) (v : V) (ps : List (V × V)) (H2 : Hp) : Prop := ∃ (k : List Key) (b : Addr), ps = [(.ref b, v)] ∧ H2 p = some (.dT []) ∧ H2 b = some (.tup (k.map kV)) ∧ Q (.ref p) (upd H2 p (.dT [(k, v)]))
def tDispT1 (tk : TE) (v : V) : TE := fun σ H Q => ∀ p, H p = none → tPairs [(tk, tC v)] σ (upd H p (.dT [])) (GoodT1 Q p v)
section
variable {X : Cx} {W : WX}
theorem pe_dispT1 {key val : Expr} {pos : Pos} {tk : TE} {v : V} (hu : X.A.units + 1 < cLine) (hk : PE X key tk) (hv : PE X val (tC v)) : PE X (.Dict [some key] [val] pos) (tDispT1 tk v) := by
  refine ⟨fun pins s σ H Q I q => ?_⟩
  have hn := I.hok.fresh (Nat.le_refl s.heap.objs.size)
  have I1 := I.laid (a := s.heap.objs.size) (o := .dT []) (h' := s.heap.push { cls := .type "dict", data := .dict #[] }) (t' := s.toks) (fun _ _ q => Heap.get?_push_of_some _ q) (Nat.le_refl _) (dt_empty s.heap I.big)
  have walk := (pps_cons (pos := pos) hk hv pps_nil).run pins _ σ _ (GoodT1 Q s.heap.objs.size v) I1 (q _ hn)
  have hnl := pairTrees_length [some key] [val] X.env pos rfl rfl
  rw [arm_eval_Dict, zip_pairTrees [some key] [val] X.env pos rfl rfl, dictDisplay_pairs _ (fun z => by rw [z] at hnl; cases hnl) (by rw [hnl]; exact Nat.lt_of_lt_of_le (Nat.lt_succ_self 1) (by decide))]
  refine wpAny_bind (wpAny_standAt (wpAny_bind (wpAny_subDictH (knd := tupleKind (mixKind X.prog X.w)) (by show X.A.units < cLine; omega) (by rw [hnl]; exact Nat.succ_le_succ (Nat.zero_le _)) (thn walk fun ws s2 ⟨ps, H2, I2, rel, k, b, ep, e, eb, q2⟩ => ?_))))
  subst ep
  cases rel with
  | @cons _ w2 _ wr h t =>
    cases t
    obtain ⟨w1, w3⟩ := w2
    obtain ⟨r1, r2⟩ := h
    cases (show w1 = Value.ref b from r1)
    obtain ⟨z, hd, xs, r0, dd⟩ := dt_of I2.hok e
    cases r0
    refine ⟨[(k, b, w3)], ⟨rfl, rfl, key_of I2.hok eb, True.intro⟩, dd, fun h' tk dd' hs => wpAny_pure ?_⟩
    obtain ⟨o, es, ep, hq, h2, h3, h4, _, h5⟩ := dd'
    have new : ObjOk X.prog X.w (upd H2 s.heap.objs.size (.dT [(k, v)])) h' s.heap.objs.size (.dT [(k, v)]) := ⟨by show 1 ≤ sizeLine; rw [sizeLine_eq]; omega, hd, [(k, b, w3)], .cons ⟨rfl, by
      rw [upd_ne (ne_of eb e (fun z => nomatch z))]
      exact eb, r2⟩ .nil, o, es, ep, hq, h2, h3, h4, h5⟩
    exact ⟨.ref s.heap.objs.size, _, d_write I2 (by rw [e]; exact True.intro) hs ⟨o, hq⟩ new, rfl, q2⟩
theorem obj_at {φ : List Addr} {H : Hp} {s : Sto} {p : Addr} (hs : So X.K φ H s) : Dt X.K (φ ++ [p]) H (.ref p) (.obj s.length) := .obj (by rw [List.getElem?_append_right (by rw [hs.len]; exact Nat.le_refl _), hs.len]; simp)
theorem de_dT1 {es : List Expr} {kk : Nat} {tpos pos : Pos} {val : Expr} {da : DA} {v : V} {d : D} (hu : X.A.units + 1 < cLine) (ha : DAs X W es da) (hv : PE X val (tC v)) (rd : ∀ φ H, Dt X.K φ H v d) : DE X W (.Dict [some (.Tuple es kk tpos)] [val] pos) (dDT1 da d) :=
  pe_imp (pe_dispT1 hu (pe_tup ha) hv) fun σ H Q ⟨Δ, φ, s, hσ, hs, h⟩ p hp => by
    have f1 : Fu X.K φ (φ ++ [p]) H (upd H p (.dT [])) := fu_newO hp
    have so1 : So X.K (φ ++ [p]) (upd H p (.dT [])) (s ++ [.dT []]) := hs.newO (o := .dT []) hp ⟨[], upd_same, .nil⟩
    have sg1 := hσ.fu f1
    show upA X.K W da σ (upd H p (.dT [])) fun xs H1 => xs.length ≤ sizeLine ∧ ∀ b, H1 b = none → GoodT1 Q p v [(.ref b, v)] (upd H1 b (.tup xs))
    have h0 : Ps X.K (wAt W σ) (Dt X.K) (φ ++ [p]) (upd H p (.dT [])) (fun _ v H' _ _ => Q v H') (mbind (da Δ) (fun xs s' => match omap keyD xs with
      | some k => if xs.length ≤ sizeLine ∧ isE (dtAt s' s.length) = true then some (.ok (D.obj s.length), s'.set s.length (.dT [(k, d)])) else none
      | none => none) (s ++ [.dT []])) := h.shift f1
    refine upA_bind sg1 so1 h0 fun φ1 vs H1 ds s1 f2 sg2 so2 rs h1 => ?_
    split at h1
    · rename_i k ek
      split at h1
      · rename_i z
        obtain ⟨z1, z2⟩ := z
        have pa : (φ ++ [p])[s.length]? = some p := by rw [List.getElem?_append_right (by rw [hs.len]; exact Nat.le_refl _), hs.len]; simp
        have pa1 := f2.get pa
        obtain ⟨kvs, hp1, r0⟩ := so2.dt (isE_some z2) pa1
        cases r0
        refine ⟨by rw [rs.length]; exact z1, fun b hb => ?_⟩
        have ev := keys_kV rs ek
        have ne : b ≠ p := fun y => by
          rw [y, hp1] at hb
          cases hb
        have f3 : Fu X.K φ1 φ1 H1 (upd H1 b (.tup vs)) := fu_new hb
        have so3 : So X.K φ1 (upd H1 b (.tup vs)) s1 := so2.new hb
        refine ⟨k, b, rfl, by rw [upd_ne (Ne.symm ne)]; exact hp1, by rw [upd_same, ev], ?_⟩
        have ff : Fu X.K φ1 φ1 (upd H1 b (.tup vs)) (upd (upd H1 b (.tup vs)) p (.dT [(k, v)])) := fu_set so3 pa1
        exact h1 φ1 (.ref p) _ (f3.trans ff) (so3.set (o := .dT [(k, d)]) pa1 ⟨_, upd_same, .cons (rd _ _) .nil⟩) (.obj pa1)
      · exact h1.elim
    · exact h1.elim
/-! ### d[a, b] = v -/
theorem ds_dputT {o value : Expr} {es : List Expr} {kk : Nat} {tpos : Pos} {dx dv : DX} {da : DA} {pos pos' : Pos} (hu : X.A.units + 1 < cLine) (ho : DE X W o dx) (ha : DAs X W es da) (hv : DE X W value dv) (hs : swapsWith value (some (.Subscript o (.Tuple es kk tpos) pos')) pos.line X.env = pure false := by rfl) :
    DSt X W (.Assign [.Subscript o (.Tuple es kk tpos) pos'] value pos) (dDPutT dx da dv) :=
  ps_imp (ps_dput hu ho (pe_tup ha) hv hs) fun D σ H ⟨Δ, φ, s, hσ, hs, h⟩ => sbE hσ hs h fun φ1 w H1 d s1 f1 hσ1 hs1 rd h1 => sbE hσ1 hs1 h1 fun φ2 v H2 x s2 f2 hσ2 hs2 rx h2 => by
    show upA X.K W da σ H2 fun xs H3 => xs.length ≤ sizeLine ∧ ∀ b, H3 b = none → ∃ a H4, v = .ref a ∧ DPut (upd H3 b (.tup xs)) a (.ref b) w H4 ∧ D.nx σ H4
    refine ⟨Δ, φ2, s2, hσ2, hs2, Ps.mono (fun φ3 vs H3 ds s3 z => ?_) (sb (R := Dts X.K) hσ2 h2)⟩
    obtain ⟨f3, so3, rs, h3⟩ := z
    have sg3 := hσ2.fu f3
    split at h3
    · rename_i n
      have rx3 := rx.fu f3
      have rd3 := (rd.fu f2).fu f3
      cases rx3
      rename_i a ha3
      split at h3
      · rename_i kvs e1
        split at h3
        · rename_i k e2
          split at h3
          · rename_i hz
            obtain ⟨z1, z2⟩ := hz
            obtain ⟨kv, k1, r⟩ := so3.dt e1 ha3
            have ev := keys_kV rs e2
            refine ⟨by rw [rs.length]; exact z2, fun b hb => ?_⟩
            have ne : b ≠ a := fun y => by
              rw [y, k1] at hb
              cases hb
            have f4 : Fu X.K φ3 φ3 H3 (upd H3 b (.tup vs)) := fu_new hb
            have so4 : So X.K φ3 (upd H3 b (.tup vs)) s3 := so3.new hb
            have k2 : (upd H3 b (.tup vs)) a = some (.dT kv) := by rw [upd_ne (Ne.symm ne)]; exact k1
            have r2 := r.fu f4
            have ff : Fu X.K φ3 φ3 (upd H3 b (.tup vs)) (upd (upd H3 b (.tup vs)) a (.dT (putK kv k w))) := fu_set so4 ha3
            exact ⟨a, _, rfl, DPut.t k2 (by rw [upd_same, ev]) (by rw [r.length]; exact z1), h3 φ3 _ _ (f4.trans ff) (so4.set (o := .dT (putKD kvs k d)) ha3 ⟨_, upd_same, (r2.put (rd3.fu f4)).fu ff⟩) (sg3.fu (f4.trans ff))⟩
          · exact h3.elim
        · exact h3.elim
      · exact h3.elim
    · exact h3.elim
/-! ### the same order for values and for data -/
theorem dts_each {K : PySem.W.Frag} {φ : List Addr} {H : Hp} : ∀ T : List (V × D × PyData), (∀ t ∈ T, Dt K φ H t.1 t.2.1) → Dts K φ H (T.map (·.1)) (T.map (·.2.1))
  | [], _ => .nil
  | t :: r, h => .cons (h t (by simp)) (dts_each r fun t ht => h t (by simp [ht]))
theorem dts_trip {K : PySem.W.Frag} {φ : List Addr} {H : Hp} : ∀ {vs : List V} {ds : List D} {ps : List PyData}, Dts K φ H vs ds → ps.length = vs.length → ∃ T : List (V × D × PyData), (∀ t ∈ T, Dt K φ H t.1 t.2.1) ∧ T.map (fun t => (t.1, t.2.2)) = vs.zip ps ∧ T.map (fun t => (t.2.1, t.2.2)) = ds.zip ps
  | _, _, [], .nil, _ => ⟨[], by simp, rfl, rfl⟩
  | _, _, p :: ps, .cons (v := v) (d := d) h r, e => by
    obtain ⟨T, t1, t2, t3⟩ := dts_trip r (by simpa using e)
    refine ⟨(v, d, p) :: T, fun t ht => ?_, by rw [List.map_cons, t2]; rfl, by rw [List.map_cons, t3]; rfl⟩
    rcases List.mem_cons.mp ht with rfl | ht
    · exact h
    · exact t1 t ht
  | _, _, _ :: _, .nil, e => by simp at e
  | _, _, [], .cons _ _, e => by simp at e
theorem sort_dts {K : PySem.W.Frag} {φ : List Addr} {H : Hp} {vs : List V} {ds : List D} {ps : List PyData} {zs : List (D × PyData)} (r : Dts K φ H vs ds) (hl : ps.length = vs.length) (hz : zs = ds.zip ps) : Dts K φ H (sortP (vs.zip ps)) (sortP zs) := by
  obtain ⟨T, t1, t2, t3⟩ := dts_trip r hl
  have q1 := List.map_mergeSort (r := PySem.W.dataLe false fun t : V × D × PyData => t.2.2) (s := PySem.W.dataLe false fun t : V × PyData => t.2) (f := fun t => (t.1, t.2.2)) (l := T) fun a _ b _ => rfl
  have q2 := List.map_mergeSort (r := PySem.W.dataLe false fun t : V × D × PyData => t.2.2) (s := PySem.W.dataLe false fun t : D × PyData => t.2) (f := fun t => (t.2.1, t.2.2)) (l := T) fun a _ b _ => rfl
  unfold sortP
  rw [hz, ← t2, ← t3, ← q1, ← q2, List.map_map, List.map_map]
  exact dts_each _ fun t ht => t1 t ((List.mergeSort_perm _ _).mem_iff.mp ht)
/-! ### sorted(d), sorted(xs) -/
theorem keysP_dp : ∀ {kvs : List (List Key × V)} {bs : List Addr} {H : Hp} {K : PySem.W.Frag}, IsKeys H kvs bs → DpAll K H (bs.map V.ref) (kvs.map fun kv => PyData.tuple (kv.1.map keyP))
  | [], _, _, _, .nil => .nil
  | kv :: kvs, _, _, _, .cons h r => .cons (.tup (.inl (.inl h)) (kV_dp _)) (keysP_dp r)
theorem keysD_dts : ∀ {kvs : List (List Key × V)} {bs : List Addr} {H : Hp} {K : PySem.W.Frag} {φ : List Addr}, IsKeys H kvs bs → Dts K φ H (bs.map V.ref) (kvs.map fun kv => D.tup (kv.1.map keyD'))
  | [], _, _, _, _, .nil => .nil
  | kv :: kvs, _, _, _, _, .cons h r => .cons (.tup (.inl (.inl h)) (kV_dts _)) (keysD_dts r)
def rSortT (K : PySem.W.Frag) : List V → Hp → VK → Prop := fun xs H Q => ∃ d kvs, xs = [V.ref d] ∧ Rd H d (.dT kvs) ∧ sortOk (kvs.map fun kv => PyData.tuple (kv.1.map keyP)) = true ∧ ∀ p bs, H p = none → IsKeys H kvs bs → Q (.ref p) (upd H p (.lst (sortP ((bs.map V.ref).zip (kvs.map fun kv => PyData.tuple (kv.1.map keyP))))))
theorem call_sortT (hc : X.calm = true) (hu : X.A.units + 66 < cLine) : CallR X (.builtin "sorted") (rSortT X.K) := by
  intro pins s σ H xs us Q I r h
  obtain ⟨d, kvs, rfl, hd, ok, q⟩ := h
  obtain ⟨u, rfl, rx⟩ := r.one
  cases rx
  obtain ⟨z, hs, ks, pr, o, es, ep, ho, hx, hdt, he, hn⟩ := (show ObjOk X.prog X.w H s.heap d (.dT kvs) from hd.ok I.hok)
  have l1 : es.size = ks.length := size_of_entries he
  have l2 : kvs.length = ks.length := Paired.length pr
  refine Calls.call_function_entry PyProof.Rows.kind_sorted PyProof.Rows.plain_sorted PyProof.Rows.entry_sorted (PyProof.Rows.args_sorted1 _) ?_
  unfold Builtin.«sorted»
  refine wpAny_bind (m := checkCount "sorted" 1 1 _) (wpAny_pure ?_)
  refine wpAny_bind (PySem.W.kdu_collect (A := X.A.in1) (kdl_raw (prog := X.prog) (w := X.w) hs hx hdt) (I.ok.hd hc) ho (by omega) fun h' tk acc' kp it => ?_)
  have ea : acc'.toList = ks.map fun x => Value.ref x.2.1 := by
    have hl : acc'.toList.length = ks.length := by rw [Array.length_toList, it.1]; exact l1
    apply List.ext_getElem?
    intro j
    rw [List.getElem?_map]
    cases hj : acc'.toList[j]? with
    | none =>
      have h1 := List.getElem?_eq_none_iff.mp hj
      rw [List.getElem?_eq_none (by omega)]
      all_goals rfl
    | some v =>
      obtain ⟨en, hen, hv⟩ := it.2 j v (by rw [← Array.getElem?_toList]; exact hj)
      have qe := entry_at he j
      rw [hen] at qe
      cases hb : ks[j]? with
      | none =>
        rw [hb] at qe
        exact nomatch (show some en = none from qe)
      | some b =>
        rw [hb] at qe
        have e2 : en = entryOfKey (tupleKind (mixKind X.prog X.w)) b := Option.some.inj qe
        rw [hv, e2]
        all_goals rfl
  have eb : acc'.toList = (ks.map fun x => x.2.1).map Value.ref := by rw [ea, List.map_map]; all_goals rfl
  have rv : Vals ((ks.map fun x => x.2.1).map V.ref) acc'.toList := by rw [eb]; exact vals_refs _
  have I1 : Inv X pins σ H { s with heap := h', toks := tk } := I.kept kp
  have ik := isKeys_of pr
  exact wpAny_mono (sort_tail I1 rv (keysP_dp ik) ok hu fun p hp => q p _ hp ik) (fun f s' hf => by
    obtain ⟨u, e, v, H', J, rv', q'⟩ := hf
    exact ⟨u, e, v, H', J, rv', q'⟩) fun _ _ e => e
theorem dc_sortT (hc : X.calm = true) (hu : X.A.units + 66 < cLine) : DCall X (.builtin "sorted") fSortedT := ⟨_, call_sortT hc hu, fun φ H s vs ds Q so rx p => by
  unfold fSortedT at p
  split at p
  · rename_i n
    obtain ⟨u, rfl, r⟩ := dts1 rx
    cases r
    rename_i a ha
    split at p
    · rename_i kvs e
      split at p
      · rename_i z
        obtain ⟨kv, k1, r0⟩ := so.dt e ha
        have ek : (kv.map fun x => PyData.tuple (x.1.map keyP)) = kvs.map fun x => PyData.tuple (x.1.map keyP) := by
          have := congrArg (List.map fun k : List Key => PyData.tuple (k.map keyP)) r0.keys
          rw [List.map_map, List.map_map] at this
          exact this
        have ed : (kv.map fun x => D.tup (x.1.map keyD')) = kvs.map fun x => D.tup (x.1.map keyD') := by
          have := congrArg (List.map fun k : List Key => D.tup (k.map keyD')) r0.keys
          rw [List.map_map, List.map_map] at this
          exact this
        refine ⟨a, kv, rfl, .inl k1, by rw [ek]; exact z, fun p' bs hp ik => ?_⟩
        rw [ek]
        have kl : bs.length = kv.length := (Paired.length ik).symm
        have kz : kvs.length = kv.length := by
          have := congrArg List.length r0.keys
          rw [List.length_map, List.length_map] at this
          exact this.symm
        refine p.newL so hp (sort_dts (keysD_dts ik) (by rw [List.length_map, List.length_map, kl, kz]) ?_)
        rw [ed, List.zip_map']
      · exact p.elim
    · exact p.elim
  · exact p.elim⟩
def rSortL (K : PySem.W.Frag) : List V → Hp → VK → Prop := fun xs H Q => ∃ a vs ps, xs = [V.ref a] ∧ SqL K H a vs ∧ DpAll K H vs ps ∧ sortOk ps = true ∧ ∀ p, H p = none → Q (.ref p) (upd H p (.lst (sortP (vs.zip ps))))
theorem call_sortL (hu : X.A.units + 66 < cLine) : CallR X (.builtin "sorted") (rSortL X.K) := by
  intro pins s σ H xs us Q I r h
  obtain ⟨a, vs, ps, rfl, hs, hd, ok, q⟩ := h
  obtain ⟨its, rv, hi, _⟩ := I.list hs
  rw [Vals.ref1 r]
  unfold sortOk at ok
  rw [Bool.and_eq_true, Bool.and_eq_true, Bool.and_eq_true] at ok
  obtain ⟨⟨⟨o1, o2⟩, o3⟩, o4⟩ := ok
  have hL : ps.length ≤ sizeLine := of_decide_eq_true o3
  have hl := dpAll_length hd
  have zs : (vs.zip ps).map (·.2) = ps := zip_snd hl
  have zl : (vs.zip ps).length = ps.length := by rw [← congrArg List.length zs, List.length_map]
  obtain ⟨as, rd⟩ := Dp.readsAll I ps vs its hd rv
  refine PySem.W.sorted_data (enc := (·.2)) hi.isList (each_vals rv hl) (each_reads hl rd) (by rw [zs]; exact alikeB_all o1) (by rw [zs]; exact sortable_of o2) (by rw [zl]; exact hL) (fun b hb => ?_) fun out hlen he => ?_
  · have hm : b.2 ∈ ps := by rw [← zs]; exact List.mem_map.mpr ⟨b, hb, rfl⟩
    have := of_decide_eq_true (List.all_eq_true.mp o4 _ hm)
    omega
  · obtain ⟨ep, he'⟩ := PyProof.Rows.sortedAll_at s.heap its (List.toArray out)
    have hlen : (sortP (vs.zip ps)).length ≤ sizeLine := by
      unfold sortP
      rw [List.length_map, List.length_mergeSort, zl]
      exact hL
    exact ⟨.ref _, upd H (s.heap.objs.size + 1) (.lst (sortP (vs.zip ps))), I.laid (t' := s.toks) (fun _ _ => PyProof.Rows.sortedAll_old) (Nat.le_succ _) ⟨hlen, out, ep, vals_each he, he'⟩, rfl, q _ (I.hok.fresh (Nat.le_succ _))⟩
theorem dc_sortL (hu : X.A.units + 66 < cLine) : DCall X (.builtin "sorted") fSortedL := ⟨_, call_sortL hu, fun φ H s vs ds Q so rx p => by
  unfold fSortedL at p
  split at p
  · rename_i n
    obtain ⟨u, rfl, r⟩ := dts1 rx
    cases r
    rename_i a ha
    split at p
    · rename_i ys e
      split at p
      · rename_i ps ep
        split at p
        · rename_i z
          obtain ⟨ws, k1, r0⟩ := so.lst (lstAt_eq e) ha
          have dp : DpAll X.K H ws ps := omap_dp (fun v d p => toPy_dp so 64 v d p) r0 ep
          exact ⟨a, ws, ps, rfl, SqL.of k1, dp, z, fun p' hp => p.newL so hp (sort_dts r0 (dpAll_length dp) rfl)⟩
        · exact p.elim
      · exact p.elim
    · exact p.elim
  · exact p.elim⟩
/-! ### the order of two data -/
def notN : PyData → Bool
  | .none => false
  | _ => true
def cmpOk (p q : PyData) : Bool := PySem.W.alike p q && notN p && decide (p.depth ≤ 64)
def fCmpP (g : PyData → PyData → Bool) : Op2 := fun x y s => match toPy s 64 x, toPy s 64 y with
  | some p, some q => if cmpOk p q = true then some (.bl (g p q), s) else none
  | _, _ => none
def rCmpP (K : PySem.W.Frag) (g : PyData → PyData → Bool) : R2 := fun x y H Q => ∃ p q, Dp K H x p ∧ Dp K H y q ∧ cmpOk p q = true ∧ Q (.bl (g p q)) H
theorem cmpOk_of {p q : PyData} (h : cmpOk p q = true) : PySem.W.alike p q = true ∧ p ≠ .none ∧ p.depth ≤ 64 := by
  unfold cmpOk at h
  rw [Bool.and_eq_true, Bool.and_eq_true] at h
  obtain ⟨⟨h1, h2⟩, h3⟩ := h
  exact ⟨h1, fun z => (by rw [z] at h2; cases h2), of_decide_eq_true h3⟩
theorem dop_cmpP {op : CmpOp} {g : PyData → PyData → Bool} (h : OpR X (compareOp op) (rCmpP X.K g)) : DOp X (compareOp op) (fCmpP g) := ⟨_, h, fun φ H s x y v u Q so rx ry p => by
  unfold fCmpP at p
  split at p
  · rename_i a b e1 e2
    split at p
    · rename_i z
      exact ⟨a, b, toPy_dp so 64 _ _ _ rx e1, toPy_dp so 64 _ _ _ ry e2, z, p.ok so (.bl _)⟩
    · exact p.elim
  · exact p.elim⟩
def fLtP : Op2 := fCmpP PySem.W.dataLt
def fGtP : Op2 := fCmpP fun p q => PySem.W.dataLt q p
def fLeP : Op2 := fCmpP fun p q => !PySem.W.dataLt q p
def fGeP : Op2 := fCmpP fun p q => !PySem.W.dataLt p q
theorem dop_ltP (hu : X.A.units + 66 < cLine) : DOp X (compareOp .Lt) fLtP := dop_cmpP fun pins s σ H x y v u Q I rx ry h => by
  obtain ⟨p, q, hp, hq, ok, z⟩ := h
  obtain ⟨as, r1⟩ := Dp.reads I p x v hp rx
  obtain ⟨bs, r2⟩ := Dp.reads I q y u hq ry
  obtain ⟨o1, o2, o3⟩ := cmpOk_of ok
  exact PySem.W.lt_data r1 r2 o1 o2 (by omega) ⟨.bl _, H, I, rfl, z⟩
theorem dop_gtP (hu : X.A.units + 66 < cLine) : DOp X (compareOp .Gt) fGtP := dop_cmpP fun pins s σ H x y v u Q I rx ry h => by
  obtain ⟨p, q, hp, hq, ok, z⟩ := h
  obtain ⟨as, r1⟩ := Dp.reads I p x v hp rx
  obtain ⟨bs, r2⟩ := Dp.reads I q y u hq ry
  obtain ⟨o1, o2, o3⟩ := cmpOk_of ok
  exact PySem.W.gt_data r1 r2 o1 o2 (by omega) ⟨.bl _, H, I, rfl, z⟩
theorem dop_leP (hu : X.A.units + 66 < cLine) : DOp X (compareOp .LtE) fLeP := dop_cmpP fun pins s σ H x y v u Q I rx ry h => by
  obtain ⟨p, q, hp, hq, ok, z⟩ := h
  obtain ⟨as, r1⟩ := Dp.reads I p x v hp rx
  obtain ⟨bs, r2⟩ := Dp.reads I q y u hq ry
  obtain ⟨o1, o2, o3⟩ := cmpOk_of ok
  exact PySem.W.le_data r1 r2 o1 o2 (by omega) ⟨.bl _, H, I, rfl, z⟩
theorem dop_geP (hu : X.A.units + 66 < cLine) : DOp X (compareOp .GtE) fGeP := dop_cmpP fun pins s σ H x y v u Q I rx ry h => by
  obtain ⟨p, q, hp, hq, ok, z⟩ := h
  obtain ⟨as, r1⟩ := Dp.reads I p x v hp rx
  obtain ⟨bs, r2⟩ := Dp.reads I q y u hq ry
  obtain ⟨o1, o2, o3⟩ := cmpOk_of ok
  exact PySem.W.ge_data r1 r2 o1 o2 (by omega) ⟨.bl _, H, I, rfl, z⟩
/-! ### isinstance(x, (T, U)), built-in types -/
def tysOf : List D → Option (List String)
  | [] => some []
  | .ty n :: r => if n ∈ tyNames then (tysOf r).map (n :: ·) else none
  | _ => none
def fIsiT : OpN := fun xs s => match xs with
  | [x, .tup ts] => match tysOf ts with
    | some ns => match kdOf x s with
      | some k => some (.bl (ns.any k.is), s)
      | none => none
    | none => none
  | _ => none
theorem kitAny_kd {K : PySem.W.Frag} (k : Kd) : ∀ ns : List String, (∀ n ∈ ns, n ∈ tyNames) → PySem.W.kitAny K (.type k.name) (ns.map Value.type) = some (ns.any k.is)
  | [], _ => rfl
  | n :: r, h => by
    have e := kit_ty (K := K) (kd_ok n (h n (by simp)) k)
    rw [List.map_cons, List.any_cons]
    unfold PySem.W.kitAny
    rw [e]
    cases k.is n with
    | true => rfl
    | false => exact kitAny_kd k r fun n hn => h n (by simp [hn])
theorem tys_of {K : PySem.W.Frag} {φ : List Addr} {H : Hp} : ∀ {ts : List D} {vs : List V} {ns : List String}, Dts K φ H vs ts → tysOf ts = some ns → vs = ns.map V.ty ∧ ∀ n ∈ ns, n ∈ tyNames
  | [], _, _, .nil, e => by cases e; exact ⟨rfl, by simp⟩
  | d :: ds, _, _, .cons h r, e => by
    cases h <;> first | (cases e; done) | skip
    rename_i n
    simp only [tysOf] at e
    split at e
    · rename_i hn
      rw [Option.map_eq_some_iff] at e
      obtain ⟨ms, e1, rfl⟩ := e
      obtain ⟨q1, q2⟩ := tys_of r e1
      refine ⟨by rw [List.map_cons, q1], fun m hm => ?_⟩
      rcases List.mem_cons.mp hm with rfl | hm
      · exact hn
      · exact q2 m hm
    · cases e
theorem vals_tys : ∀ {ns : List String} {us : List Value}, Vals (ns.map V.ty) us → us = ns.map Value.type
  | [], _, .nil => rfl
  | n :: r, _, .cons h t => by rw [List.map_cons, ← vals_tys t, (show _ = Value.type n from h)]
/-- isinstance(x, c), c a tuple of classes in any place -/
def rIsiS (K : PySem.W.Frag) : List V → Hp → VK → Prop := fun xs H Q => ∃ (x : V) (tp : Addr) (cs : List V) (t : Value) (us : List Value) (b : Bool), xs = [x, .ref tp] ∧ SqT K H tp cs ∧ (∀ ws, Vals cs ws → ws = us) ∧ TyX K H x t ∧ PySem.W.kitAny K t us = some b ∧ Q (.bl b) H
theorem call_isiS : CallR X (.builtin "isinstance") (rIsiS X.K) := by
  intro pins s σ H xs us Q I r h
  obtain ⟨x, tp, cs, t, ws, b, rfl, hT, k, ty, e, q⟩ := h
  obtain ⟨u1, u2, rfl, r1, r2⟩ := vals2 r
  cases (show u2 = Value.ref tp from r2)
  obtain ⟨P, Z, p, hx⟩ := kit_of I r1 ty
  obtain ⟨its, rv, ⟨o, h1, h2, n, h3⟩, _⟩ := I.tuple hT
  have e3 := k _ rv
  subst e3
  obtain ⟨oc, od, dt, sl⟩ := o
  simp only at h2 h3
  subst h2 h3
  exact PySem.W.kia_tup Z I.kIn p h1 e hx fun tk => ⟨.bl b, H, I.tok tk, rfl, q⟩
theorem dc_isiT : DCall X (.builtin "isinstance") fIsiT := ⟨_, call_isiS, fun φ H s vs ds Q so rx p => by
  unfold fIsiT at p
  split at p
  · rename_i x ts
    obtain ⟨v, u, rfl, r1, r2⟩ := dts2 rx
    cases r2
    rename_i a ws hT rs
    split at p
    · rename_i ns en
      split at p
      · rename_i k ek
        obtain ⟨q1, q2⟩ := tys_of rs en
        subst q1
        exact ⟨v, a, _, .type k.name, ns.map Value.type, _, rfl, hT, fun ws hw => vals_tys hw, kd_ty so r1 ek, kitAny_kd k ns q2, p.ok so (.bl _)⟩
      · exact p.elim
    · exact p.elim
  · exact p.elim⟩
end
end DV

set_option maxHeartbeats 2000000
namespace DV
open PySem L2 PyProof.Rows
/-! ### isinstance(x, (C, D)), own exception classes -/
/-- the classes Cs; those of Y are instances of one of them, those of N of none -/
def fIsiXT (Cs Y N : List Addr) : OpN := fun xs s => match xs with
  | [x, .tup ts] => if ts.length = Cs.length ∧ (ts.zip Cs).all (fun p => match p.1 with | .adr c => decide (c = p.2) | _ => false) = true then match x with
    | .exc k _ _ => if k ∈ Y then some (.bl true, s) else if k ∈ N then some (.bl false, s) else none
    | x => match kdOf x s with
      | some _ => some (.bl false, s)
      | none => none
    else none
  | _ => none
/-- what isinstance says of instances of the exception class c, asked for the classes Cs -/
structure IsXT (K : PySem.W.Frag) (Cs : List Addr) (c : Addr) (b : Bool) : Prop where
  ex : ExcC K c
  any : PySem.W.kitAny K (.ref c) (Cs.map Value.ref) = some b
theorem isXT_nil {K : PySem.W.Frag} {c : Addr} (e : ExcC K c) : IsXT K [] c false := ⟨e, rfl⟩
theorem isXT_no {K : PySem.W.Frag} {C c : Addr} {Cs : List Addr} {b : Bool} (h : IsX K C c false) (r : IsXT K Cs c b) : IsXT K (C :: Cs) c b := ⟨r.ex, by
  rw [List.map_cons]
  unfold PySem.W.kitAny
  rw [h.one]
  exact r.any⟩
theorem isXT_yes {K : PySem.W.Frag} {C c : Addr} {Cs : List Addr} (h : IsX K C c true) : IsXT K (C :: Cs) c true := ⟨h.ex, by
  rw [List.map_cons]
  unfold PySem.W.kitAny
  rw [h.one]⟩
def rIsXT (K : PySem.W.Frag) : List V → Hp → VK → Prop := fun xs H Q => ∃ (e tp c : Addr) (Cs : List Addr) (ks : List Str) (vs : List V) (b : Bool), xs = [.ref e, .ref tp] ∧ SqT K H tp (Cs.map V.ref) ∧ ExV H e c ks vs ∧ IsXT K Cs c b ∧ Q (.bl b) H
theorem vals_refs' : ∀ {cs : List Addr} {us : List Value}, Vals (cs.map V.ref) us → us = cs.map Value.ref
  | [], _, .nil => rfl
  | c :: r, _, .cons h t => by rw [List.map_cons, ← vals_refs' t, (show _ = Value.ref c from h)]
theorem adrs_of {K : PySem.W.Frag} {φ : List Addr} {H : Hp} : ∀ {ts : List D} {vs : List V} {Cs : List Addr}, Dts K φ H vs ts → ts.length = Cs.length → (ts.zip Cs).all (fun p => match p.1 with | .adr c => decide (c = p.2) | _ => false) = true → vs = Cs.map V.ref
  | [], _, [], .nil, _, _ => rfl
  | [], _, _ :: _, _, e, _ => by simp at e
  | _ :: _, _, [], _, e, _ => by simp at e
  | t :: ts, _, C :: Cs, .cons h r, e, a => by
    rw [List.zip_cons_cons, List.all_cons, Bool.and_eq_true] at a
    obtain ⟨a1, a2⟩ := a
    cases h <;> first | (cases a1; done) | skip
    rename_i c
    have := of_decide_eq_true a1
    subst this
    rw [List.map_cons, adrs_of r (by simpa using e) a2]
section
variable {X : Cx} {W : WX}
theorem call_isXT : CallR X (.builtin "isinstance") (rIsXT X.K) := by
  intro pins s σ H xs us Q I r h
  obtain ⟨e, tp, c, Cs, ks, vs, b, rfl, hT, hv, hx, q⟩ := h
  obtain ⟨u1, u2, rfl, r1, r2⟩ := vals2 r
  cases (show u1 = Value.ref e from r1)
  cases (show u2 = Value.ref tp from r2)
  obtain ⟨oe, od, J⟩ := inst_exc I hv
  have E := hx.ex
  have hcl : (PySem.W.clsIn X.K c).isSome = true := by
    obtain ⟨cd, hc, _⟩ := PySem.W.any_some E.hd
    rw [hc]
    rfl
  obtain ⟨its, rv, ⟨o, h1, h2, n, h3⟩, _⟩ := I.tuple hT
  have e3 := vals_refs' rv
  subst e3
  obtain ⟨oc, od', dt, sl⟩ := o
  simp only at h2 h3
  subst h2 h3
  exact PySem.W.kia_tup (PySem.W.kitx_exc hcl E.hg E.hk E.hs E.ha E.hn E.ht E.hm) I.kIn J h1 hx.any (fun z => nomatch z) fun tk => ⟨.bl b, H, I.tok tk, rfl, q⟩
theorem dc_isiXT {Cs Y N : List Addr} (hc : ∀ C ∈ Cs, PySem.W.isClsIn X.K C = true ∧ PySem.W.typeIn X.K (.ref C) = some (.type "type")) (hY : ∀ k ∈ Y, IsXT X.K Cs k true) (hN : ∀ k ∈ N, IsXT X.K Cs k false) : DCall X (.builtin "isinstance") (fIsiXT Cs Y N) := by
  have un : ∀ (k : Kd) (L : List Addr), (∀ C ∈ L, PySem.W.isClsIn X.K C = true ∧ PySem.W.typeIn X.K (.ref C) = some (.type "type")) → PySem.W.kitAny X.K (.type k.name) (L.map Value.ref) = some false := by
    intro k L
    induction L with
    | nil => intro _; rfl
    | cons C r ih =>
      intro hL
      obtain ⟨c, ct⟩ := hL C (by simp)
      have h : ((PySem.W.clsIn X.K C).isSome && PySem.W.typeIn X.K (.ref C) == some (.type "type")) = true := by
        unfold PySem.W.isClsIn at c
        rw [c, ct]
        decide
      rw [List.map_cons]
      unfold PySem.W.kitAny PySem.W.kitOne PySem.W.kitCls
      rw [show (Value.type k.name == Value.ref C) = false from rfl]
      simp only [Bool.false_eq_true, if_false, h, if_true]
      rw [sub_kd k]
      exact ih fun C hC => hL C (by simp [hC])
  refine ⟨fun xs H Q => rIsXT X.K xs H Q ∨ rIsiS X.K xs H Q, fun pins s σ H xs us Q I r h => ?_, fun φ H s vs ds Q so rx p => ?_⟩
  · rcases h with h | h
    · exact call_isXT pins s σ H xs us Q I r h
    · exact call_isiS pins s σ H xs us Q I r h
  · unfold fIsiXT at p
    split at p
    · rename_i x ts
      obtain ⟨v, u, rfl, r1, r2⟩ := dts2 rx
      split at p
      · rename_i z
        obtain ⟨z1, z2⟩ := z
        cases r2
        rename_i a ws hT rs
        have ew := adrs_of rs z1 z2
        subst ew
        split at p
        · rename_i k ks ds2
          cases r1
          rename_i e ws h1 h2
          left
          split at p
          · rename_i hk
            exact ⟨e, a, k, Cs, ks, ws, true, rfl, hT, h1, hY k hk, p.ok so (.bl _)⟩
          · split at p
            · rename_i hk
              exact ⟨e, a, k, Cs, ks, ws, false, rfl, hT, h1, hN k hk, p.ok so (.bl _)⟩
            · exact p.elim
        · split at p
          · rename_i k e
            right
            exact ⟨v, a, _, .type k.name, Cs.map Value.ref, false, rfl, hT, fun ws hw => vals_refs' hw, kd_ty so r1 e, un k Cs hc, p.ok so (.bl _)⟩
          · exact p.elim
      · exact p.elim
    · exact p.elim
/-! ### enumerate of a list or a tuple -/
/-! ### len(x), x of a class with its own __len__ -/
def fLenO (C : Addr) (fM : FnD) : OpN := fun xs s => match xs with
  | [.obj n] => match insAt s n with
    | some (C', _) => if C' = C then match fM [.obj n] s with
      | some (.ok (.int i), s') => if 0 ≤ i ∧ i < 2 ^ 63 then some (.int i, s') else none
      | _ => none
      else none
    | none => none
  | _ => none
def rN (K : PySem.W.Frag) (f : OpN) : List V → Hp → VK → Prop := fun vs H Q => ∃ φ s ds, So K φ H s ∧ Dts K φ H vs ds ∧ PsO K φ H Q (f ds s)
variable {k : Nat} {f C : Addr} {fd : FuncData} {fM : FnD}
theorem dc_lenO (F : FnX X k f fd ["self"] fM) (hr : RoomG (k + 1) X.A) (hb : Binds X.K fd ["self"] []) (tk : Takes X W) (hs : PySem.W.findIn X.K (.ref C) "__len__" = some (some (.ref f))) (hf : PySem.W.isFn X.K (.ref f) = true) : DCall X (.builtin "len") (fLenO C fM) := by
  refine ⟨rN X.K (fLenO C fM), fun pins s σ H xs us Q I r h => ?_, fun φ H s vs ds Q so rx p => ⟨φ, s, ds, so, rx, p⟩⟩
  obtain ⟨φ, st, ds, so, rs, h⟩ := h
  unfold fLenO at h
  split at h
  · rename_i n
    obtain ⟨v, rfl, r1⟩ := dts1 rs
    split at h
    · rename_i C' fs e1
      split at h
      · rename_i z
        subst z
        split at h
        · rename_i i s' e2
          split at h
          · rename_i hi
            have r1' := r1
            cases r1'
            rename_i a ha
            obtain ⟨b, hb', dx, vs, k1, _⟩ := so.at (insAt_eq e1)
            rw [ha] at hb'
            cases hb'
            rw [Vals.ref1 r]
            obtain ⟨mA, J, _⟩ := ins_get I.hok k1
            obtain ⟨od, J, _⟩ := J.look
            obtain ⟨m, hF⟩ := I.fr
            have hr1 : RoomG k X.A.in1 := ⟨hr.rm.in1, hr.gd⟩
            refine PySem.W.len_K hF I.ok.mod.kin J hs hf ?_
            have sp : spD X.K 1 fM [V.ref a] H (fun v H' => ∃ i : Int, v = .int i ∧ (0 ≤ i ∧ i < 2 ^ 63) ∧ Q (.int i) H') (WE W σ) := by
              refine ⟨rfl, [.obj n], φ, st, .cons r1 .nil, so, ?_⟩
              rw [e2]
              intro φ' v H' f so' rv
              cases rv
              exact ⟨i, rfl, hi, h φ' (.int i) H' f so' (.int _)⟩
            have e0 : Env0 X.prog X.w X.K X.mg X.base X.A.in1 X.stack s H := by
              have e := I.env0
              exact ⟨e.frames, e.mod, e.bs, e.bsz, e.funs, e.frf, e.hok, e.bare⟩
            have rr : Vals [V.ref a] [Value.ref a] := .cons rfl .nil
            refine wpAny_call (codeAny_mono (F.run X.A.in1 X.stack s H ⟨[.ref a], []⟩ [.ref a] [.ref a] _ (WE W σ) hr1 e0 (by
              have bb := hb s [.ref a] I.kIn (by simp)
              simpa using bb) rr sp) fun q s2 hq => ?_)
            cases q with
            | error e => exact passAt tk σ pins H s e s2 I hq
            | ok fl => cases fl with
              | ret w =>
                obtain ⟨z, H', I', rz, ⟨i', ez, hi', q⟩⟩ := I.after hq
                subst ez
                obtain ⟨t, ew⟩ := (show ∃ t, w = Value.int i' t from rz)
                subst ew
                exact ⟨hi', .int i', H', I'.tok _, ⟨_, rfl⟩, q⟩
              | next => exact hq.elim
              | brk => exact hq.elim
              | cont => exact hq.elim
          · exact h.elim
        · exact h.elim
      · exact h.elim
    · exact h.elim
  · exact h.elim
end
end DV

set_option maxHeartbeats 2000000
namespace DV
open PySem L2 PyProof.Rows
/-! ### the end of a law with several defs that write lambdas: their tables are the store's first objects -/
/-- a def that writes lambdas: its code object, the table of that, the name of its lambdas -/
structure Lm where
  c : Addr
  p : Addr
  q : Str
def tabO (L : List Lm) : Sto := L.map fun x => .tab x.p x.q
/-- the run over the data says True for every script -/
def AllTrueL (L : List Lm) (fM : FnD) : Prop := ∀ ns : List Int, ns.length ≤ 63 → ∃ s, fM [.fz (ns.map .int)] (tabO L) = some (.ok (.bl true), s)
theorem So.tabsO {K : PySem.W.Frag} {H : Hp} {L : List Lm} (nd : (L.map (·.p)).Nodup) (h : ∀ x ∈ L, LamX.TabS H x.p x.q) : So K (L.map (·.p)) H (tabO L) := by
  refine ⟨by unfold tabO; rw [List.length_map, List.length_map], nd, fun n o e => ?_⟩
  unfold tabO at e
  rw [List.getElem?_map, Option.map_eq_some_iff] at e
  obtain ⟨x, hx, rfl⟩ := e
  exact ⟨x.p, by rw [List.getElem?_map, hx]; rfl, rfl, h x (List.mem_of_getElem? hx)⟩
theorem law_topL {P : Program} {w : World} {K : PySem.W.Frag} {mg mb : Str → Option Value} {k : Nat} {fa a : Addr} {L : List Lm} {fd : FuncData} {x : Str} {fM : FnD} {t : Shared} {vs : List Value} {ns : List Int} (inK : K.In t.heap) (nsM : t.heap.Ns mainGlobals mg) (nsB : t.heap.Ns builtinsNs mb)
    (boot : ∀ y : Str, y ≠ "__name__" → mb y = bootBuiltins y) (lim : t.heap.NoLimit) (noG : t.gens = #[]) (tabP : ∀ y ∈ L, t.heap.get? y.p = some { cls := .none, data := .fields #[] }) (noK : ∀ y ∈ L, K.lookup y.p = none) (hd : ∀ y ∈ L, PySem.W.CodeHd t.heap y.c y.p) (nd : (L.map (·.p)).Nodup)
    (bm : ∃ (m : Addr) (o : Obj), mg "__builtins__" = some (.ref m) ∧ m ≠ builtinsNs ∧ t.heap.get? m = some o ∧ o.cls = .type "module" ∧ o.dict = some builtinsNs ∧ o.data = .plain)
    (script : t.heap.get? a = some { cls := .type "list", data := .seq vs.toArray }) (hints : IntsAre vs ns) (h63 : ns.length ≤ 63) (hr : RoomG k callerA)
    (F : ∀ base : Heap, K.In base → base.Ns mainGlobals mg → (∀ y ∈ L, LamX.TabB base mg y.c y.p) → FnG P w K mg base k fa fd [x] fM) (bind : ∀ (s : Shared) (u : Value), BindsTo s fd ⟨[u], []⟩ [(x, u)]) (hT : AllTrueL L fM) :
    codeAny (model P w) callerA (.call (.ref fa) ⟨[.ref a], []⟩) (fun r t2 => r = .ok (.ret (.bool true)) ∧ OldK t.heap t2.heap ∧ t2.os = t.os ∧ AllBare t2.gens) t := by
  have vals := vals_ints hints
  have small : ns.length ≤ sizeLine := Nat.le_of_lt (small1000 (by omega))
  have isT : ∀ b : Addr, b ∈ L.map (·.p) → t.heap.get? b = some { cls := .none, data := .fields #[] } := fun b hb => by
    obtain ⟨y, hy, e⟩ := List.mem_map.mp hb
    rw [← e]
    exact tabP y hy
  have memT : ∀ y ∈ L, y.p ∈ L.map (·.p) := fun y hy => List.mem_map.mpr ⟨y, hy, rfl⟩
  have aT : a ∉ L.map (·.p) := fun z => by
    have q := isT a z
    rw [script] at q
    have z' : Data.seq vs.toArray _ = Data.fields #[] := congrArg Obj.data (Option.some.inj q)
    cases z'
  -- H tracks the tables, and the script at most
  have run : ∀ H : Hp, (∀ y ∈ L, H y.p = some (.tbl #[])) → (∀ b, b ∉ L.map (·.p) → H b = none ∨ ∃ ob xs, H b = some (.frz ob (.lst xs))) → FzL K H a (ns.map V.int) → HOk P w H t.heap → (∀ b, H b ≠ none → b = a ∨ b ∈ L.map (·.p)) → (H a ≠ none → K.lookup a = none) →
      codeAny (model P w) callerA (.call (.ref fa) ⟨[.ref a], []⟩) (fun r t2 => r = .ok (.ret (.bool true)) ∧ OldK t.heap t2.heap ∧ t2.os = t.os ∧ AllBare t2.gens) t := fun H hp only fz hok alone free => by
    have plain : ∀ {b : Addr} {o : Obj}, t.heap.get? b = some o → (∀ us n, o.data ≠ .seq us n) → o.data ≠ .fields #[] → (hidT t.heap H).get? b = some o := fun {b o} e n1 n2 => hidT_get e (by
      cases q : H b with
      | none => rfl
      | some u =>
        rcases alone b (by rw [q]; simp) with z | z
        · subst z
          rw [script] at e
          cases e
          exact (n1 _ _ rfl).elim
        · rw [isT b z] at e
          cases e
          exact (n2 rfl).elim)
    have dicts : ∀ {b : Addr} {m : Str → Option Value}, t.heap.Ns b m → (hidT t.heap H).Ns b m := fun {b m} ⟨o, es, ep, e, d, r⟩ => ⟨o, es, ep, plain e (fun us n z => by rw [d] at z; cases z) (fun z => by rw [d] at z; cases z), d, r⟩
    have inB : K.In (hidT t.heap H) := fun b o e => hidT_get (inK b o e) (by
      cases q : H b with
      | none => rfl
      | some u =>
        rcases alone b (by rw [q]; simp) with z | z
        · subst z
          rw [free (by rw [q]; simp)] at e
          cases e
        · obtain ⟨y, hy, ey⟩ := List.mem_map.mp z
          rw [← ey, noK y hy] at e
          cases e)
    obtain ⟨ml, l1, l2⟩ := lim
    have md : Mod K mg (hidT t.heap H) := ⟨inB, dicts nsM, ⟨mb, dicts nsB, boot⟩, ⟨ml, dicts l1, l2⟩⟩
    have TB : ∀ y ∈ L, LamX.TabB (hidT t.heap H) mg y.c y.p := fun y hy => by
      have hTp := tabP y hy
      refine ⟨?_, ?_, fun z => ?_⟩
      · obtain ⟨o, us, file, tf, flags, tg, inF, text, tt, e, c1, c2, c3, c4, c5, c6, c7, c8, c9⟩ := hd y hy
        refine ⟨o, us, file, tf, flags, tg, inF, text, tt, plain e (fun vs n z => ?_) (fun z => ?_), c1, c2, c3, c4, c5, c6, c7, c8, c9⟩
        · rw [c2] at z
          cases z
        · rw [c2] at z
          cases z
          simp at c3
      · obtain ⟨m, o, b1, b2, b3, b4, b5, b6⟩ := bm
        refine ⟨m, o, b1, b2, fun z => ?_, fun z => ?_, plain b3 (fun vs n z => ?_) (fun z => ?_), b4, b5, b6⟩
        · obtain ⟨o', es, ep, e, hd, _⟩ := nsM
          rw [z, e] at b3
          cases b3
          rw [hd] at b6
          cases b6
        · rw [z, hTp] at b3
          cases b3
          cases b6
        · rw [b6] at z
          cases z
        · rw [b6] at z
          cases z
      · obtain ⟨o', es, ep, e, hd, _⟩ := nsM
        rw [z, hTp] at e
        cases e
        cases hd
    have env0 : Env0 P w K mg (hidT t.heap H) callerA [] t H := ⟨rfl, md, fun b o e => of_hidT e, Nat.le_of_eq (hidT_size _ _), trivial, fun b hb => absurd hb (by simp [frs]), hok, .of_eq noG⟩
    obtain ⟨s', hs⟩ := hT ns h63
    have sp : spD K 1 fM [.ref a] H (fun v _ => v = .bl true) fun _ _ _ => False := by
      refine ⟨rfl, [.fz (ns.map .int)], L.map (·.p), tabO L, .cons (.fz fz (Dts.of_ints ns)) .nil, So.tabsO nd fun y hy => LamX.TabS.nil (hp y hy), ?_⟩
      rw [hs]
      intro φ v H' _ _ rv
      cases rv
      rfl
    refine codeAny_mono ((F _ inB (dicts nsM) TB).run callerA [] t H ⟨[.ref a], []⟩ [.ref a] [.ref a] (fun v _ => v = .bl true) (fun _ _ _ => False) hr env0 (bind t (.ref a)) (.cons rfl .nil) sp) fun r t2 h => ?_
    cases r with
    | error e => exact (no_exc h).elim
    | ok fl => cases fl with
      | next => exact h.elim
      | brk => exact h.elim
      | cont => exact h.elim
      | ret u =>
        obtain ⟨v, H', os, bare, un, hok', rv, ev⟩ := h
        have ev' : v = .bl true := ev
        subst ev'
        obtain rfl : u = Value.bool true := rv
        have grown : ∀ y ∈ L, ∃ more : Array Value, t2.heap.get? y.p = some { cls := .none, data := .fields more } := fun y hy => by
          obtain ⟨more, z⟩ := un.tbls y.p #[] (hp y hy)
          exact ⟨_, hok' y.p _ z⟩
        have kept : ∀ b o, b ∉ L.map (·.p) → t.heap.get? b = some o → t2.heap.get? b = some o := fun b o np e => by
          rcases only b np with z | ⟨ob, xs, z⟩
          · exact un.keep b o e z (fun y => absurd y (by simp [frs])) (by simp)
          · obtain ⟨e1, _⟩ := hok b _ z
            obtain ⟨e2, _⟩ := hok' b _ (un.frzs b ob _ z)
            rw [e] at e1
            cases e1
            exact e2
        refine ⟨rfl, ⟨fun b o e => ?_, fun b o e => ?_⟩, os, bare⟩
        · by_cases hb : b ∈ L.map (·.p)
          · obtain ⟨y, hy, ey⟩ := List.mem_map.mp hb
            obtain ⟨more, hm⟩ := grown y hy
            rw [← ey] at e ⊢
            rw [tabP y hy] at e
            cases e
            exact .inr (.inl ⟨((hd y hy).tab (tabP y hy)).isCodeTable, rfl, #[], more, rfl, by rw [Array.empty_append]; exact hm⟩)
          · exact .inl (kept b o hb e)
        · by_cases hb : b ∈ L.map (·.p)
          · obtain ⟨y, hy, ey⟩ := List.mem_map.mp hb
            obtain ⟨more, hm⟩ := grown y hy
            rw [← ey]
            exact ⟨_, hm⟩
          · exact ⟨o, kept b o hb e⟩
  cases lk : K.lookup a with
  | some o =>
    have e := inK a o lk
    rw [script] at e
    cases e
    refine run (fun b => if b ∈ L.map (·.p) then some (.tbl #[]) else none) (fun y hy => if_pos (memT y hy)) (fun b n => .inl (if_neg n)) (.inr (.inr ⟨_, vs.toArray, _, lk, rfl, rfl, rfl, by rw [List.size_toArray, hints.length]; exact small, by simpa using vals⟩)) (fun b u z => ?_) (fun b z => ?_) fun z => absurd (if_neg aT) z
    · by_cases hb : b ∈ L.map (·.p)
      · cases (if_pos hb).symm.trans z
        exact isT b hb
      · cases (if_neg hb).symm.trans z
    · by_cases hb : b ∈ L.map (·.p)
      · exact .inr hb
      · exact absurd (if_neg hb) z
  | none =>
    refine run (fun b => if b = a then some (.frz { cls := .type "list", data := .seq vs.toArray } (.lst (ns.map V.int))) else if b ∈ L.map (·.p) then some (.tbl #[]) else none) (fun y hy => (if_neg (fun z : y.p = a => aT (z ▸ memT y hy))).trans (if_pos (memT y hy))) (fun b n => ?_) (.inl ⟨_, if_pos rfl⟩) (fun b u z => ?_) (fun b z => ?_) fun _ => lk
    · by_cases hb : b = a
      · exact .inr ⟨_, _, if_pos hb⟩
      · exact .inl ((if_neg hb).trans (if_neg n))
    · by_cases hb : b = a
      · subst hb
        cases (if_pos rfl).symm.trans z
        exact ⟨script, by rw [List.length_map]; exact small, vs, _, vals, script⟩
      · have z1 := (if_neg hb).symm.trans z
        by_cases hb2 : b ∈ L.map (·.p)
        · cases (if_pos hb2).symm.trans z1
          exact isT b hb2
        · cases (if_neg hb2).symm.trans z1
    · by_cases hb : b = a
      · exact .inl hb
      · by_cases hb2 : b ∈ L.map (·.p)
        · exact .inr hb2
        · exact absurd ((if_neg hb).trans (if_neg hb2)) z
/-- the goal at the law's head; names: the defs that write lambdas -/
theorem walk_topL {l : PySem.W.OpenLaw} {k : Nat} {q : Program} {loose : List Str} {XP : (Str → Option Value) → Heap → Prop} {YP : World → Heap → Prop} {d : DefRec} {K : Params → PySem.W.Frag} {x : Str} (names : List Str) (hn : l.most = some 63) (hdf : d.params.defaults = []) (hr : RoomG k callerA)
    (hrec : names.all (fun n => (recsOf q).any fun e => e.name == n) = true) (hY : ∀ (w : World) (h : Heap), YP w h → (K w.params).In h)
    (F : ∀ (w : World) (mg : Str → Option Value) (fa : Addr) (h : Heap), (K w.params).In h → h.Ns mainGlobals mg → mg d.name = some (.ref fa) → (∀ n ∈ names, ∀ a, mg n = some (.ref a) → LamX.OwnTab (K w.params) a h) →
      ∃ (fd : FuncData) (fM : FnD) (L : List Lm), AllTrueL L fM ∧ (∀ (s : Shared) (u : Value), BindsTo s fd ⟨[u], []⟩ [(x, u)]) ∧ (L.map (·.p)).Nodup ∧ (∀ y ∈ L, h.get? y.p = some { cls := .none, data := .fields #[] } ∧ (K w.params).lookup y.p = none ∧ PySem.W.CodeHd h y.c y.p) ∧
        ∀ base : Heap, (K w.params).In base → base.Ns mainGlobals mg → (∀ y ∈ L, LamX.TabB base mg y.c y.p) → FnG l.prog w (K w.params) mg base k fa fd [x] fM) :
    PySem.W.WalkO q loose XP YP l.row.toRowW d [] (fun f vs => PySem.call f vs) := by
  refine Att.attach_call hn hdf fun w s₀ t mg mb fa o pm cd doc a vs ns G Y _ _ _ hmg hobj hints hlen noG => ?_
  have inK := hY w _ Y
  have own : ∀ n ∈ names, ∀ a, mg n = some (.ref a) → LamX.OwnTab (K w.params) a t.heap := by
    intro n hn' a ha c P o1 fd1 e dd us sl k1 k2 k3 k4 k5
    obtain ⟨r, r1, r2⟩ := List.any_eq_true.mp (List.all_eq_true.mp hrec n hn')
    obtain ⟨a1, o2, fd2, c2, p2, g1, g2, g3, g4, g5, g6⟩ := G.T.tab r r1
    rw [beq_iff_eq.mp r2, ha] at g1
    cases g1
    rw [inK _ _ k1] at g2
    cases g2
    rw [k2] at g3
    cases g3
    rw [k3] at g4
    cases g4
    obtain ⟨⟨oc, vc, e1, _, e3, e4⟩, hP⟩ := g6
    rw [inK _ _ k4] at e1
    cases e1
    cases e3
    rw [k5] at e4
    cases e4
    exact hP
  obtain ⟨fd, fM, L, hT, hbd, nd, hL, hF⟩ := F w mg fa _ inK G.T.g hmg own
  exact law_topL inK G.T.g G.T.b G.T.builtins G.T.nolimit noG (fun y hy => (hL y hy).1) (fun y hy => (hL y hy).2.1) (fun y hy => (hL y hy).2.2) nd G.T.bmain hobj hints hlen hr hF hbd hT
/-! ### x(lambda: e), the table is the store's j-th object -/
def dLamJ (j : Nat) (P : Addr) (q : Str) (fM : Addr → M D → M D) (db : DX) : DX := fun Δ s => match (show List DO from s)[j]? with
  | some (DO.tab P' q') => if P' = P ∧ q' = q then fM 0 (db Δ) s else none
  | _ => none
section
variable {X : Cx} {W : WX}
theorem de_lamJ (j : Nat) {x qual a : Str} {st : Stmt} {g c P : Addr} {k : Nat} {fd : FuncData} {Ng : List Str} {params : Arguments} {body : Expr} {scope : Scope} {p lpos pos : Pos} {b : Addr → M D → DS} {fM : Addr → M D → M D} {db : DX}
    (hM : ∀ f wk, fM f wk = runFn Ng.length (b f wk) [.adr f]) (hi : ∀ f wk s, fM f wk s = fM 0 wk s)
    (hm : X.mg x = some (.ref g)) (hk : PySem.W.keepIn X.K (.ref g) = true) (F : Fun X.K x qual st g fd) (S : FnScope Ng [a] (defScope st)) (hb : Binds X.K fd [a] []) (hr : RoomG (k + 2) X.A) (tk : Takes X W)
    (TB : LamX.TabB X.base X.mg c P) (hcode : X.env.code = .ref c) (L : LamX.LamS X.env.scope scope) (hdef : defaultsOf params X.env = ([], []))
    (hbind : ∀ (q : Str) (cl : List (Str × Addr)) (pm cv ctv : Value), bindArgs (PySem.W.kla_fn "<lambda>" q params body scope cl pm cv ctv) ⟨[], []⟩ = pure [])
    (hcal : ∀ (cdv : Value) (f : Addr) (wk : M D) (s : Shared) (H : Hp) (E : XK) (φ0 : List Addr), RoomG (k + 1) (Zx X Ng qual (defScope st) g cdv s H E).A → Takes (Zx X Ng qual (defScope st) g cdv s H E) (EW E) →
      PassesOwn (model X.prog X.w) (Zx X Ng qual (defScope st) g cdv s H E).A (Zx X Ng qual (defScope st) g cdv s H E).env (Zx X Ng qual (defScope st) g cdv s H E).xe →
      (∀ (W' : WX) (pn : List (Addr × Obj)) (xe : Value → Shared → Prop) (p1 p2 : Pos), Takes ((Zx X Ng qual (defScope st) g cdv s H E).tr pn xe) W' → DEp ((Zx X Ng qual (defScope st) g cdv s H E).tr pn xe) W' φ0 H (.Call (.Name a p1) [] [] p2) (dWk 0 f wk)) →
      DSsp (Zx X Ng qual (defScope st) g cdv s H E) (EW E) φ0 H (defBody st) (b f wk))
    (hbody : ∀ (A : Around) (outer : List Env) (s : Shared) (H : Hp) (E : XK) (f c' : Addr), RoomG k (A.deeper (LamX.lamEnv X scope s.heap.objs.size f c')) → Takes (LamX.lamCx X A outer s H E scope f c') (EW E) → DE (LamX.lamCx X A outer s H E scope f c') (EW E) body db)
    (ha0 : Ng[0]? = some a := by rfl) (hva : Vis (defScope st) a := by first | exact Or.inl rfl | exact Or.inr (Or.inl rfl)) (hg : Gl X x := by rfl)
    (hdb : (x == ("__debug__" : Str)) = false := by decide) (hda : (a == ("__debug__" : Str)) = false := by decide) (hca : (a == ("__classdict__" : Str)) = false := by decide) :
    DE X W (.Call (.Name x p) [.Lambda params body scope lpos] [] pos) (dLamJ j P (X.env.qual ++ "<lambda>") fM db) := by
  refine ⟨fun pins s σ H Q I ⟨Δ, φ, stt, hσ, hs, h⟩ => ?_⟩
  unfold dLamJ at h
  split at h
  · rename_i P' q' e0
    split at h
    · rename_i ePq
      obtain ⟨eP, eq⟩ := ePq
      subst eP eq
      refine wpAny_Call_Name_kw (ld_glob I hg hm ?_ hdb)
      refine PySem.W.callWith_K (h₀ := X.base) I.ok.mod.kin hk ?_ (by rfl) (by rfl)
      refine Calls.spliced_cons (LamX.lam_make2 (T := tabsOf stt) I TB hcode (tabsOf_mem e0) (hs.tab1 e0) hs.tabs hdef (L.has I.ok) fun f c' pm' ctv H1 s1 I1 eN T1 hf hfn hfr hco => ?_)
      refine Calls.spliced_nil ⟨I1.kIn, ?_⟩
      have f1 : Fu X.K φ φ H H1 := fu_ext eN
      have so1 : So X.K φ H1 stt := hs.ext eN T1
      have sg1 : Sg X.K φ H1 σ Δ := hσ.fu f1
      have h1 : Ps X.K (wAt W σ) (Dt X.K) φ H1 (fun _ v H' _ _ => Q v H') (fM f (db Δ) stt) := by
        rw [hi]
        exact h.shift f1
      have ran : codeAny (model X.prog X.w) X.A (.call (.ref g) ⟨[.ref f], []⟩) (CR (L2.CX X.prog X.w) X.stack X.prog X.w H1 s1 Q (WE W σ)) s1 := by
        obtain ⟨oc, od, kV, doc, pm, an, cdv, ct, osl, rfl, lk, hcd⟩ := F.ex
        have env0 := I1.env0
        have kin := I1.kIn
        have bind := hb s1 [.ref f] kin rfl
        have par : ∀ y ∈ [a].zip [Value.ref f], (defScope st).names.lookup y.1 = some .local ∨ ((defScope st).names.lookup y.1 = some .cell ∧ ((cellsFrom (s1.heap.objs.size + 1) (defScope st).names []).lookup y.1).isSome = true) := fun y hy => by
          rcases S.par y.1 (List.of_mem_zip (a := y.1) (b := y.2) hy).1 with q | q
          · exact Or.inl q
          · exact Or.inr (And.intro q (PySem.W.cellsFrom_some _ _ _ (Or.inl q)))
        refine codeAny_call_function hr.rm.depth (kin _ _ lk) rfl S.co S.gen rfl (PySem.W.codeRec_of kin hcd) (bind _ _ _ _ ?_)
        refine wpAny_newFunctionEnv_cells S.kind par fun env henv t1 inc => ?_
        subst henv
        have hr1 : RoomG (k + 1) (Zx X Ng qual (defScope st) g cdv s1 H1 (WE W σ)).A := hr.deeper _
        have cal := hcal cdv f (db Δ) s1 H1 (WE W σ) φ hr1 (takes_of rfl rfl rfl rfl) (passes_of rfl) fun W' pn xe p1 p2 tk' =>
          de_act I1 L hf hfn hfr hco (hbind _ _ _ _ _) tk' hr1 sg1 (fun s2 HZ E' r2 t2 => hbody _ _ s2 HZ E' f c' r2 t2) ha0 hva hda hca
        have J0 : Inv (Zx X Ng qual (defScope st) g cdv s1 H1 (WE W σ)) [] (L2.start Ng [.ref f]) H1 t1 := inv_start (us := [.ref f]) S hr.rm.hd env0 rfl (.cons rfl .nil) inc
        have start : upSP X.K (EW (WE W σ)) φ H1 (b f (db Δ)) { nx := fun _ H' => Q .non H', rt := Q } (L2.start Ng [.ref f]) H1 := by
          refine ⟨startD Ng.length [.adr f], φ, stt, Fu.refl _ _, Sg.start (.cons (.adr f) .nil), so1, ?_⟩
          rw [hM] at h1
          unfold runFn at h1
          cases e : b f (db Δ) (startD Ng.length [.adr f]) stt with
          | none => rw [e] at h1; exact h1.elim
          | some pr =>
            obtain ⟨q, s'⟩ := pr
            rw [e] at h1
            cases q with
            | rt d => exact h1
            | nx Δ => exact fun ψ σ' H' g so' _ => h1 ψ .non H' g so' .non
            | ex x Δ => exact fun ψ σ' H' c dd g so' _ xr => h1 ψ H' c dd g so' xr
            | bk Δ => exact h1.elim
            | ct Δ => exact h1.elim
        have ends : ∀ {σ' : L2.St} {H' : Hp} {v : V} {u : Value} {t2 : Shared}, Inv (Zx X Ng qual (defScope st) g cdv s1 H1 (WE W σ)) [] σ' H' t2 → RelV v u → Q v H' → CE X.stack X.prog X.w H1 s1 Q u t2 := fun {σ' H' v u t2} J rv q => ⟨v, H', J.os, J.bare, J.base, J.hok, rv, q⟩
        refine ⟨env0.mod.nolimit.keeps fun d u e => inc.toInCall.keep d u (env0.bs d u e).1, codeAny_func (wpAny_mono (cal.run [] t1 (L2.start Ng [.ref f]) H1 _ J0 start) (fun fl t2 hs => ?_) fun _ _ hs => hs)⟩
        cases fl with
        | ret u => obtain ⟨v, σ', H', J, rv, q⟩ := hs; exact ends J rv q
        | next => obtain ⟨σ', H', J, q⟩ := hs; exact ends (v := V.non) (u := Value.none) J rfl q
        | brk => obtain ⟨_, _, _, q⟩ := hs; exact q.elim
        | cont => obtain ⟨_, _, _, q⟩ := hs; exact q.elim
      refine wpAny_call (codeAny_mono ran fun r s2 hq => ?_)
      cases r with
      | error e => exact passAt tk σ pins H1 s1 e s2 I1 hq
      | ok fl => cases fl with
        | ret u => exact I1.after hq
        | next => exact hq.elim
        | brk => exact hq.elim
        | cont => exact hq.elim
    · exact h.elim
  · exact h.elim
end

/-- a block's names, as relabel makes them -/
def relabelS (scope sc : Scope) : Scope := { scope with names := scope.names.map fun (n, k) => if (k == .free && sc.kind == .function && sc.names.lookup n == some .cell) then (n, .cell) else (n, k) }
theorem lamS_rel {scope lscope sc : Scope} {env : Env} (e : env.scope = sc) (h : LamX.lamSB (relabelS scope sc) lscope = true) : LamX.LamS (relabel scope env) lscope := by
  have r : relabel scope env = relabelS scope sc := by
    subst e
    rfl
  rw [r]
  exact LamX.lamS_by h
end DV

set_option maxHeartbeats 2000000
namespace PySem
open Sem (wp)
theorem enum_newTup (t : Addr) (its : Array Value) :
    Meets (Builtin.«enumerate.__new__» ⟨[.type "enumerate", .ref t], []⟩) (fun _ R s => s.heap.IsTuple t its ∧
      R (.ok (.ret (.ref (s.heap.push { cls := .type "tuple_iterator", data := .fields #[.ref t, .int 0 0] }).objs.size)))
        { s with heap := (s.heap.push { cls := .type "tuple_iterator", data := .fields #[.ref t, .int 0 0] }).push { cls := .type "enumerate", data := .fields #[.none, .bool false, .ref s.heap.objs.size, rawInt 0, .none, .none] } }) :=
  .of_wp fun prog w A R s both => by
    obtain ⟨hp, g, d, tk, os⟩ := s
    obtain ⟨ht, h⟩ := both
    have hsub := sub_enumerate
    have hL : Heap.IsTuple (Shared.heap ⟨hp, g, d, tk, os⟩) t its := ht
    wp_walk
    refine wpAny_stack_any fun _ => wpAny_pure ?_
    split
    · rename_i cls _ _ _ _ _
      cases (cls == Value.type "enumerate")
      all_goals (wp_walk using wpAny_pyIter_tuple hL; exact ⟨_, rfl, h⟩)
    · wp_walk using wpAny_pyIter_tuple hL
      exact ⟨_, rfl, h⟩
theorem enum_tup {prog : Program} {w : World} {A : Around} {E : Value → Shared → Prop} {s : Shared} {t : Addr} {its : Array Value} {Q : Value → Shared → Prop} (ht : s.heap.IsTuple t its)
    (h : ∀ h', IsEnum h' (s.heap.objs.size + 1) s.heap.objs.size 0 .none → h'.IsTupleIter s.heap.objs.size t 0 → (∀ b o, s.heap.get? b = some o → h'.get? b = some o) → Q (.ref (s.heap.objs.size + 1)) { s with heap := h' }) :
    wpAny (model prog w) A (call (.type "enumerate") [.ref t]) Q E s := by
  refine callType_new F.called_enumerate (by decide) (F.typeCall_enumerate_1 _) (F.newCall_enumerate_1 _) (fun obj => F.args_object_init_2 obj _) F.entry_enumerate_new (enum_newTup t its) ⟨ht, ?_⟩
  have sz : (s.heap.push { cls := .type "tuple_iterator", data := .fields #[.ref t, .int 0 0] }).objs.size = s.heap.objs.size + 1 := Heap.size_push ..
  show _ ∧ _
  rw [sz]
  have he : IsEnum ((s.heap.push { cls := .type "tuple_iterator", data := .fields #[.ref t, .int 0 0] }).push { cls := .type "enumerate", data := .fields #[.none, .bool false, .ref s.heap.objs.size, rawInt 0, .none, .none] }) (s.heap.objs.size + 1) s.heap.objs.size 0 .none := by
    have z := Heap.get?_push_size (s.heap.push { cls := .type "tuple_iterator", data := .fields #[.ref t, .int 0 0] }) (o := { cls := .type "enumerate", data := .fields #[.none, .bool false, .ref s.heap.objs.size, rawInt 0, .none, .none] }) rfl
    rw [sz] at z
    exact z
  exact ⟨⟨_, he, rfl⟩, h _ he ⟨_, Heap.get?_push_of_some _ (Heap.get?_push_size _ rfl), rfl, rfl⟩ fun b o x => Heap.get?_push_of_some _ (Heap.get?_push_of_some _ x)⟩
theorem enT_end {prog : Program} {w : World} {A : Around} {E : Value → Shared → Prop} {s : Shared} {e it t : Addr} {c : Int} {i : Nat} {old : Value} {its : Array Value} {Q : Option Value → Shared → Prop} (hh : A.handled = none) (he : IsEnum s.heap e it c old) (hit : s.heap.IsTupleIter it t i) (ht : s.heap.IsTuple t its) (hx : its[i]? = none)
    (hQ : ∀ h', Heap.ExtBut it s.heap h' → Q none { s with heap := h' }) : wpAny (model prog w) A (pyNext (.ref e)) Q E s := by
  have ty : s.TypeIs (.ref e) "enumerate" := ⟨_, he, rfl⟩
  have last : wpAny (model prog w) A.in1 (Builtin.«enumerate.__next__» ⟨[.ref e], []⟩) (fun fin s' => ∃ v, fin = .done (.ret v) ∧ False) (fun x s' => ∃ b, x = .ref b ∧ (∃ o, s'.heap.get? b = some o ∧ o.cls = .type "StopIteration") ∧ ∃ h', Heap.ExtBut it s.heap h' ∧ s' = { s with heap := h' }) s := by
    show wpAny _ _ (field (.ref e) 2 >>= _) _ _ s
    refine wpAny_bind (wpAny_field he rfl (x := .ref it) rfl (wpAny_bind (wpAny_nextOf_tuple_end (A := A.in1) hh hit ht hx fun h' b x st => ?_)))
    exact ⟨b, rfl, st, h', x, rfl⟩
  unfold pyNext
  refine wpAny_bind (wpAny_attempt (wpAny_callSpecial?_slot (name := Str.ofString "__next__") ty F.slot_enumerate_next (wpAny_call_entry F.slot_enumerate_next ty F.entry_enumerate_next (wpAny_mono last (fun f s' z => ?_) fun x s' z => ?_) (F.args_enumerate_next_1 _))))
  · obtain ⟨_, _, z⟩ := z
    exact z.elim
  · obtain ⟨b, rfl, ⟨o, ho, hc⟩, h', hx', rfl⟩ := z
    refine wpAny_bind (wpAny_isInstance (T := "StopIteration") (b := true) ⟨o, ho, hc⟩ isSubtype_stop ?_)
    exact wpAny_pure (hQ _ hx')
end PySem
namespace DV
open PySem L2 PyProof.Rows
/-! ### enumerate of a tuple -/
def IteT (K : PySem.W.Frag) (a : Addr) : It :=
  ⟨fun i H => ∃ (xs : List V) (x : V), SqT K H a xs ∧ xs[i]? = some x, fun i H v H' => ∃ T x, v = .ref T ∧ H T = none ∧ H' = upd H T (.tup [.int (i : Nat), x]) ∧ ∀ xs, SqT K H a xs → xs[i]? = some x, fun i H => ∃ xs : List V, SqT K H a xs ∧ xs.length ≤ i⟩
theorem turn_enT {P : Program} {w : World} {K : PySem.W.Frag} {elts : List Expr} {kk : Nat} {tpos : Pos} (a e it : Addr) :
    Turn P w K (.Tuple elts kk tpos) (IteT K a) [e, it] e (fun i h => (∃ old, IsEnum h e it ((i : Nat) : Int) old) ∧ h.IsTupleIter it a i ∧ e ≠ it) where
  mem := by simp
  obj := fun i h st b hb => by
    obtain ⟨⟨old, he⟩, ⟨o, ho, hc, hd⟩, _⟩ := st
    rcases (show b = e ∨ b = it by simpa using hb) with z | z
    · subst z; exact ⟨_, he, fun v q => nomatch q⟩
    · subst z; exact ⟨o, ho, fun v q => by rw [hd] at q; cases q⟩
  keep := fun i h h' st k => by
    obtain ⟨⟨old, he⟩, hi, hne⟩ := st
    exact ⟨⟨old, k e (by simp) _ he⟩, hi.at fun o q => k it (by simp) o q, hne⟩
  item := by
    intro X hP hw hK hc i pins s σ H E I hf st hg
    subst hP hw hK
    obtain ⟨⟨old, he⟩, hit, hne⟩ := st
    obtain ⟨xs, x, hq, hx⟩ := hg
    obtain ⟨its, rv, p, hz⟩ := I.tuple hq
    obtain ⟨u, hu, ru⟩ := rv.get hx
    have el : e < s.heap.objs.size := Heap.lt_size he
    have il : it < s.heap.objs.size := by obtain ⟨_, q, _⟩ := hit; exact Heap.lt_size q
    have nt : a ≠ it := fun z => by
      obtain ⟨o1, q1, q2, _⟩ := p
      obtain ⟨o2, q3, q4, _⟩ := hit
      rw [z, q3] at q1
      cases q1
      exact absurd (Value.type.inj (q4.symm.trans q2)) (by decide)
    have na : e ≠ a := fun z => by
      obtain ⟨o1, q1, q2, _⟩ := p
      rw [← z, he] at q1
      cases q1
      exact absurd (Value.type.inj q2) (by decide)
    refine wpAny_pyNext_enum_itemD (Draws.tuple (prog := X.prog) (w := X.w) (A := X.A.in1) (show X.A.in1.handled = none from I.ok.hd hc) it a nt its.toArray) he ⟨hit, p⟩ (by
      have := (List.getElem?_eq_some_iff.mp hu).1
      simpa using this) hne (by simp [hne, na]) fun x1 h' tk hP ho hst hT hsz hk => ?_
    have ex : x1 = u := by
      rw [List.getElem?_toArray, hu] at hP
      exact (Option.some.inj hP).symm
    subst ex
    refine ⟨_, rfl, wpAny_letOwnedTupleGo_enum (s := { s with heap := h', toks := tk + 1 }) ho fun h'' he' sb => ?_⟩
    have hT2 : h''.get? s.heap.objs.size = some { cls := .type "tuple", data := .seq #[.int i tk, x1] } := (sb.2 _ (Nat.ne_of_gt el)).trans hT
    have new : ObjOk X.prog X.w (upd H s.heap.objs.size (.tup [.int (i : Nat), x])) h'' s.heap.objs.size (.tup [.int (i : Nat), x]) :=
      ⟨by show 2 ≤ sizeLine; decide, [.int i tk, x1], .cons ⟨_, rfl⟩ (.cons ru .nil), ⟨_, hT2, rfl, _, rfl⟩⟩
    have I1 : Inv X pins σ (upd H s.heap.objs.size (.tup [.int (i : Nat), x])) { s with heap := h'', toks := tk + 1 } :=
      I.turnedNew (ch := [e, it]) (fun b ob hb q => (sb.2 b (fun z => hb (by simp [z]))).trans (hk b ob (fun z => hb (by simp [z])) (fun z => hb (by simp [z])) q)) hf (Nat.le_refl _) new
    refine ⟨.ref s.heap.objs.size, _, I1, rfl, ⟨_, x, rfl, I.hok.fresh (Nat.le_refl _), rfl, fun ys hy => by rw [I.tuple_inj hy hq]; exact hx⟩, ⟨⟨x1, ?_⟩, hst.1.at fun o q => (sb.2 it (Ne.symm hne)).trans q, hne⟩, fun b hb => ?_⟩
    · have e1 : ((i + 1 : Nat) : Int) = (i : Int) + 1 := by omega
      rw [e1]; exact he'
    · have lt : b < s.heap.objs.size := by
        rcases (show b = e ∨ b = it by simpa using hb) with z | z
        · rw [z]; exact el
        · rw [z]; exact il
      rw [upd_ne (Nat.ne_of_lt lt)]
      exact (hf b hb).1
  done := by
    intro X hP hw hK hc i pins s σ H E I hf st hg
    subst hP hw hK
    obtain ⟨⟨old, he⟩, hit, hne⟩ := st
    obtain ⟨xs, hq, hx⟩ := hg
    obtain ⟨its, rv, p, hz⟩ := I.tuple hq
    obtain ⟨f0, f1, f2, f3, f4, f5⟩ := hf it (by simp)
    have nt : a ≠ it := fun z => by
      obtain ⟨o1, q1, q2, _⟩ := p
      obtain ⟨o2, q3, q4, _⟩ := hit
      rw [z, q3] at q1
      cases q1
      exact absurd (Value.type.inj (q4.symm.trans q2)) (by decide)
    have hl := Paired.length rv
    exact enT_end (I.ok.hd hc) he hit p (by simp; omega) fun h' eb => ⟨rfl, I.turned (t' := s.toks) (fun b o hb q => eb b o hb q) f0 f1 f3 f4 f5⟩
  self := fun A i s Q E st h => let ⟨⟨_, he⟩, _⟩ := st; wpAny_pyIter_enum he h
/-- enumerate(x), x a list or a tuple -/
def iEnumA (da : DA) : DI := fun Δ => mbind (da Δ) fun xs s => match xs with
  | [.obj n] => match lstAt s n with
    | some ys => some (.ok ⟨enumD 0 ys, some (n, ys)⟩, s)
    | none => none
  | [.tup ys] => some (.ok ⟨enumD 0 ys, none⟩, s)
  | _ => none
theorem yl_enT {K : PySem.W.Frag} {φ : List Addr} {H : Hp} {a : Addr} {vs : List V} {xs : List D} (h : SqT K H a vs) (r : Dts K φ H vs xs) : Yl K φ H (IteT K a) ⟨enumD 0 xs, none⟩ := fun φ' H' s' f so st i => by
  have k := f.go _ _ h
  refine ⟨fun d e => ?_, fun h => ⟨vs, k, by rw [r.length]; rw [enumD_len] at h; exact h⟩⟩
  obtain ⟨x, hx, rfl⟩ := enumD_get xs 0 i d e
  obtain ⟨v, hv, rv⟩ := r.get hx
  refine ⟨⟨vs, v, k, hv⟩, fun w H'' y => ?_⟩
  obtain ⟨T, z, rfl, hT, rfl, y⟩ := y
  have e2 := y vs k
  rw [hv] at e2
  cases e2
  have fT : Fu K φ' φ' H' (upd H' T (.tup [.int (i : Nat), v])) := fu_new hT
  exact ⟨fT, so.new hT, .tup (SqT.of upd_same) (.cons (by rw [Nat.zero_add]; exact .int _) (.cons ((rv.fu f).fu fT) .nil))⟩
def iEnB (K : PySem.W.Frag) (ta : TA) : TI := fun σ H R => ta σ H fun vs H1 => ∃ a, vs = [.ref a] ∧ ((∃ xs, SqL K H1 a xs ∧ R (Ite K a) H1) ∨ ∃ xs, SqT K H1 a xs ∧ R (IteT K a) H1)
theorem pi_enB {X : Cx} {e : Expr} {ta : TA} {p pos tpos : Pos} {elts : List Expr} {kk : Nat} (hg : Gl X "enumerate") (hm : X.mg "enumerate" = none) (ha : PA X [e] ta) (hs : starEach [e] X.env = [(false, eval e X.env)] := by rfl) : PI X (.Tuple elts kk tpos) (.Call (.Name "enumerate" p) [e] [] pos) (iEnB X.K ta) := by
  refine ⟨fun pins s σ H R I h => Call_ (ld_blt I hg hm boot_enumerate (PyProof.Rows.callWith_type1 (thn (ha.run pos pins s σ H _ I h) fun us s1 ⟨vs, H1, I1, r1, a, ex, both⟩ => ?_) hs rfl))⟩
  subst ex
  rw [Vals.ref1 r1]
  have fp : ∀ b ∈ [s1.heap.objs.size + 1, s1.heap.objs.size], FpOk X pins H1 b := fun b hb => by
    have le : s1.heap.objs.size ≤ b := by
      rcases (show b = s1.heap.objs.size + 1 ∨ b = s1.heap.objs.size by simpa using hb) with z | z
      · rw [z]; exact Nat.le_succ _
      · rw [z]; exact Nat.le_refl _
    exact I1.fpOk le (I1.hok.fresh le)
  rcases both with ⟨xs, hq, q⟩ | ⟨xs, hq, q⟩
  · obtain ⟨its, rv, p', hz⟩ := I1.list hq
    refine call_enumerate_list p'.isList fun h' he hit hsz hk => wpAny_pyIter_enum he ?_
    exact ⟨s1.heap.objs.size + 1, _, _, _, H1, rfl, I1.kept (t' := s1.toks) hk, turn_enum a (s1.heap.objs.size + 1) s1.heap.objs.size, ⟨⟨.none, he⟩, hit, Nat.succ_ne_self _⟩, fp, q⟩
  · obtain ⟨its, rv, p', hz⟩ := I1.tuple hq
    refine enum_tup p' fun h' he hit hk => wpAny_pyIter_enum he ?_
    exact ⟨s1.heap.objs.size + 1, _, _, _, H1, rfl, I1.kept (t' := s1.toks) hk, turn_enT a (s1.heap.objs.size + 1) s1.heap.objs.size, ⟨⟨.none, he⟩, hit, Nat.succ_ne_self _⟩, fp, q⟩
theorem di_enB {X : Cx} {W : WX} {elts : List Expr} {kk : Nat} {tpos : Pos} {e : Expr} {da : DA} {p pos : Pos} (hg : Gl X "enumerate") (hm : X.mg "enumerate" = none) (ha : DAs X W [e] da) (hs : starEach [e] X.env = [(false, eval e X.env)] := by rfl) : DIt X W (.Tuple elts kk tpos) (.Call (.Name "enumerate" p) [e] [] pos) (iEnumA da) :=
  pi_imp (pi_enB hg hm ha hs) fun σ H R ⟨Δ, φ, s, hσ, hs, h⟩ => upA_bind hσ hs h fun φ1 v H1 x s1 f1 hσ1 hs1 rx h1 => by
    split at h1
    · rename_i n
      obtain ⟨u, rfl, r⟩ := dts1 rx
      cases r
      rename_i a ha
      split at h1
      · rename_i xs e
        obtain ⟨vs, k, r⟩ := hs1.lst (lstAt_eq e) ha
        exact ⟨a, rfl, .inl ⟨vs, SqL.of k, h1.ok hs1 (yl_enum ha)⟩⟩
      · exact h1.elim
    · obtain ⟨u, rfl, r⟩ := dts1 rx
      cases r
      rename_i a vs hq r
      exact ⟨a, rfl, .inr ⟨vs, hq, h1.ok hs1 (yl_enT hq r)⟩⟩
    · exact h1.elim
end DV

namespace DV
open PySem L2 PyProof.Rows
/-! ### a def that gets a lambda does not look at it, piece by piece -/
theorem fin_first {P Q Q' : DS} {Δ Δ0 Δ1 Δ2 : Dn} {s s1 : Sto} (h1 : P Δ s = some (.nx Δ1, s1)) (h2 : P Δ0 s = some (.nx Δ2, s1)) (h : finS (Q Δ1 s1) = finS (Q' Δ2 s1)) : finS (dSeq P Q Δ s) = finS (dSeq P Q' Δ0 s) := by
  unfold dSeq
  rw [h1, h2]
  exact h
def catchD (i j : Nat) (Δ : Dn) (x : Xc) : Dn := (Δ.set j (some (.exc x.cls (x.fs.map (·.1)) (x.fs.map (·.2))))).set i none
theorem fin_try {L : List Addr} {i j : Nat} {W W0 R : DS} {Δ Δ0 : Dn} {s : Sto}
    (hW : (W Δ s = none ∧ W0 Δ0 s = none) ∨ (∃ Δ1 Δ2 s1, W Δ s = some (.nx Δ1, s1) ∧ W0 Δ0 s = some (.nx Δ2, s1) ∧ finS (R Δ1 s1) = finS (R Δ2 s1)) ∨ (∃ x s1, W Δ s = some (.ex x Δ, s1) ∧ W0 Δ0 s = some (.ex x Δ0, s1) ∧ finS (R (catchD i j Δ x) s1) = finS (R (catchD i j Δ0 x) s1)))
    (hl : Δ.length = Δ0.length) : finS (dSeq (dTryK L i j W) R Δ s) = finS (dSeq (dTryK L i j W0) R Δ0 s) := by
  unfold dSeq dTryK
  rcases hW with ⟨h1, h2⟩ | ⟨Δ1, Δ2, s1, h1, h2, h3⟩ | ⟨x, s1, h1, h2, h3⟩
  · rw [h1, h2]
  · rw [h1, h2]
    exact h3
  · rw [h1, h2]
    dsimp only
    rw [hl]
    by_cases c : x.cls ∈ L ∧ i < Δ0.length ∧ j < Δ0.length
    · rw [if_pos c, if_pos c]
      exact h3
    · rw [if_neg c, if_neg c]
theorem wk_drop {i j : Nat} {f : Addr} {wk : M D} {R : DS} {Δ Δ0 : Dn} {s : Sto} (h1 : Δ[0]? = some (some (.adr f))) (h2 : Δ0[0]? = some (some (.adr 0))) (hR : ∀ s1, finS (R Δ s1) = finS (R Δ0 s1)) (hC : ∀ x s1, finS (R (catchD i j Δ x) s1) = finS (R (catchD i j Δ0 x) s1)) :
    (dDrop (dWk 0 f wk) Δ s = none ∧ dDrop (dWk 0 0 wk) Δ0 s = none) ∨ (∃ Δ1 Δ2 s1, dDrop (dWk 0 f wk) Δ s = some (.nx Δ1, s1) ∧ dDrop (dWk 0 0 wk) Δ0 s = some (.nx Δ2, s1) ∧ finS (R Δ1 s1) = finS (R Δ2 s1)) ∨
      (∃ x s1, dDrop (dWk 0 f wk) Δ s = some (.ex x Δ, s1) ∧ dDrop (dWk 0 0 wk) Δ0 s = some (.ex x Δ0, s1) ∧ finS (R (catchD i j Δ x) s1) = finS (R (catchD i j Δ0 x) s1)) := by
  have e1 : dWk 0 f wk Δ s = wk s := by simp [dWk, h1]
  have e2 : dWk 0 0 wk Δ0 s = wk s := by simp [dWk, h2]
  unfold dDrop sbind
  rw [e1, e2]
  cases wk s with
  | none => exact .inl ⟨rfl, rfl⟩
  | some p =>
    obtain ⟨q, s1⟩ := p
    cases q with
    | ok a => exact .inr (.inl ⟨_, _, _, rfl, rfl, hR s1⟩)
    | error x => exact .inr (.inr ⟨x, s1, rfl, rfl, hC x s1⟩)
theorem wk_asg {i j k : Nat} {f : Addr} {wk : M D} {R : DS} {Δ Δ0 : Dn} {s : Sto} (h1 : Δ[0]? = some (some (.adr f))) (h2 : Δ0[0]? = some (some (.adr 0))) (hR : ∀ d s1, finS (R (Δ.set k (some d)) s1) = finS (R (Δ0.set k (some d)) s1)) (hC : ∀ x s1, finS (R (catchD i j Δ x) s1) = finS (R (catchD i j Δ0 x) s1)) :
    (dAsg (dWk 0 f wk) (gN k) Δ s = none ∧ dAsg (dWk 0 0 wk) (gN k) Δ0 s = none) ∨ (∃ Δ1 Δ2 s1, dAsg (dWk 0 f wk) (gN k) Δ s = some (.nx Δ1, s1) ∧ dAsg (dWk 0 0 wk) (gN k) Δ0 s = some (.nx Δ2, s1) ∧ finS (R Δ1 s1) = finS (R Δ2 s1)) ∨
      (∃ x s1, dAsg (dWk 0 f wk) (gN k) Δ s = some (.ex x Δ, s1) ∧ dAsg (dWk 0 0 wk) (gN k) Δ0 s = some (.ex x Δ0, s1) ∧ finS (R (catchD i j Δ x) s1) = finS (R (catchD i j Δ0 x) s1)) := by
  have e1 : dWk 0 f wk Δ s = wk s := by simp [dWk, h1]
  have e2 : dWk 0 0 wk Δ0 s = wk s := by simp [dWk, h2]
  unfold dAsg sbind gN
  rw [e1, e2]
  cases wk s with
  | none => exact .inl ⟨rfl, rfl⟩
  | some p =>
    obtain ⟨q, s1⟩ := p
    cases q with
    | ok a => exact .inr (.inl ⟨_, _, _, rfl, rfl, hR a s1⟩)
    | error x => exact .inr (.inr ⟨x, s1, rfl, rfl, hC x s1⟩)
theorem asg_two {i j : Nat} {a b : D} {Δ : Dn} {s : Sto} : dAsg (dTup (dCons (dC a) (dCons (dC b) dNil))) (gTp 2 (gsCons (gN i) (gsCons (gN j) gsNil))) Δ s = some (.nx ((Δ.set i (some a)).set j (some b)), s) := by
  have l2 : 2 ≤ sizeLine := by rw [sizeLine_eq]; omega
  simp [dAsg, dTup, dCons, dNil, dC, mbind, mret, sbind, l2, gTp, gsCons, gsNil, gN]
/-! ### runs that do not look at the first name -/
structure Same0 (Δ Δ' : Dn) : Prop where
  len : Δ.length = Δ'.length
  get : ∀ i : Nat, Δ[i + 1]? = Δ'[i + 1]?
theorem Same0.set {Δ Δ' : Dn} (h : Same0 Δ Δ') (i : Nat) (o : Option D) : Same0 (Δ.set (i + 1) o) (Δ'.set (i + 1) o) := ⟨by rw [List.length_set, List.length_set, h.len], fun j => by
  rw [List.getElem?_set, List.getElem?_set, h.len, h.get j]⟩
theorem Same0.wipe {Δ Δ' : Dn} (h : Same0 Δ Δ') : ∀ vs : List Nat, vs.all (fun v => decide (0 < v)) = true → Same0 (wipeD Δ vs) (wipeD Δ' vs)
  | [], _ => h
  | v :: vs, e => by
    rw [List.all_cons, Bool.and_eq_true] at e
    have v0 := of_decide_eq_true e.1
    obtain ⟨u, rfl⟩ : ∃ u, v = u + 1 := ⟨v - 1, by omega⟩
    exact (Same0.wipe h vs e.2).set u none
def Ig {α : Type} (de : Dn → M α) : Prop := ∀ Δ Δ', Same0 Δ Δ' → de Δ = de Δ'
inductive RelG : Option (Dn × Sto) → Option (Dn × Sto) → Prop
  | no : RelG none none
  | yes {Δ Δ' : Dn} (s : Sto) : Same0 Δ Δ' → RelG (some (Δ, s)) (some (Δ', s))
def IgG (g : DGf) : Prop := ∀ d Δ Δ' s, Same0 Δ Δ' → RelG (g d Δ s) (g d Δ' s)
def IgGs (g : List D → Dn → Sto → Option (Dn × Sto)) : Prop := ∀ d Δ Δ' s, Same0 Δ Δ' → RelG (g d Δ s) (g d Δ' s)
inductive RelS : RS → RS → Prop
  | no : RelS none none
  | nx {Δ Δ' : Dn} (s : Sto) : Same0 Δ Δ' → RelS (some (.nx Δ, s)) (some (.nx Δ', s))
  | rt (d : D) (s : Sto) : RelS (some (.rt d, s)) (some (.rt d, s))
  | ex {Δ Δ' : Dn} (x : Xc) (s : Sto) : Same0 Δ Δ' → RelS (some (.ex x Δ, s)) (some (.ex x Δ', s))
  | bk {Δ Δ' : Dn} (s : Sto) : Same0 Δ Δ' → RelS (some (.bk Δ, s)) (some (.bk Δ', s))
  | ct {Δ Δ' : Dn} (s : Sto) : Same0 Δ Δ' → RelS (some (.ct Δ, s)) (some (.ct Δ', s))
def IgS (b : DS) : Prop := ∀ Δ Δ' s, Same0 Δ Δ' → RelS (b Δ s) (b Δ' s)
theorem RelS.fin {a b : RS} (h : RelS a b) : finS a = finS b := by cases h <;> rfl
theorem fin_ig {b : DS} {Δ Δ' : Dn} {s : Sto} (h : IgS b) (e : Same0 Δ Δ') : finS (b Δ s) = finS (b Δ' s) := (h Δ Δ' s e).fin
theorem same0_cons {x y : Option D} {r : Dn} : Same0 (x :: r) (y :: r) := ⟨rfl, fun _ => rfl⟩
theorem Same0.catch_ {Δ Δ' : Dn} (h : Same0 Δ Δ') (i j : Nat) (x : Xc) : Same0 (catchD (i + 1) (j + 1) Δ x) (catchD (i + 1) (j + 1) Δ' x) := (h.set j _).set i _
theorem allL_nil {p : Lm → Prop} : ∀ y ∈ ([] : List Lm), p y := fun y h => nomatch h
theorem allL_cons {p : Lm → Prop} {x : Lm} {L : List Lm} (h : p x) (r : ∀ y ∈ L, p y) : ∀ y ∈ x :: L, p y := fun y hy => by
  rcases List.mem_cons.mp hy with rfl | hy
  · exact h
  · exact r y hy
-- values
theorem ig_var {i : Nat} : Ig (dVar (i + 1)) := fun Δ Δ' h => by
  unfold dVar
  rw [h.get i]
theorem ig_c {d : D} : Ig (dC d) := fun _ _ _ => rfl
theorem ig_nil : Ig dNil := fun _ _ _ => rfl
theorem ig_cons {a : DX} {r : DA} (h : Ig a) (k : Ig r) : Ig (dCons a r) := fun Δ Δ' e => by unfold dCons; rw [h _ _ e, k _ _ e]
theorem ig_tup {a : DA} (h : Ig a) : Ig (dTup a) := fun Δ Δ' e => by unfold dTup; rw [h _ _ e]
theorem ig_lst {a : DA} (h : Ig a) : Ig (dLst a) := fun Δ Δ' e => by unfold dLst; rw [h _ _ e]
theorem ig_cb {f : OpN} {a : DA} (h : Ig a) : Ig (dCB f a) := fun Δ Δ' e => by unfold dCB; rw [h _ _ e]
theorem ig_op {f : Op2} {a b : DX} (h : Ig a) (k : Ig b) : Ig (dOp f a b) := fun Δ Δ' e => by unfold dOp; rw [h _ _ e, k _ _ e]
theorem ig_op1 {f : Op1} {a : DX} (h : Ig a) : Ig (dOp1 f a) := fun Δ Δ' e => by unfold dOp1; rw [h _ _ e]
theorem ig_test {a : DX} (h : Ig a) : Ig (dTest a) := fun Δ Δ' e => by unfold dTest; rw [h _ _ e]
theorem ig_truth {a : DX} (h : Ig a) : Ig (dTruth a) := fun Δ Δ' e => by unfold dTruth; rw [h _ _ e]
theorem ig_and {a b : DT} (h : Ig a) (k : Ig b) : Ig (dAnd a b) := fun Δ Δ' e => by unfold dAnd; rw [h _ _ e, k _ _ e]
theorem ig_or {a b : DT} (h : Ig a) (k : Ig b) : Ig (dOr a b) := fun Δ Δ' e => by unfold dOr; rw [h _ _ e, k _ _ e]
theorem ig_not {a : DT} (h : Ig a) : Ig (dNot a) := fun Δ Δ' e => by unfold dNot; rw [h _ _ e]
theorem ig_andT {a b : DX} (h : Ig a) (k : Ig b) : Ig (dAndT a b) := fun Δ Δ' e => by unfold dAndT; rw [h _ _ e, k _ _ e]
theorem ig_orT {a b : DX} (h : Ig a) (k : Ig b) : Ig (dOrT a b) := fun Δ Δ' e => by unfold dOrT; rw [h _ _ e, k _ _ e]
theorem ig_notT {a : DX} (h : Ig a) : Ig (dNotT a) := fun Δ Δ' e => by unfold dNotT; rw [h _ _ e]
theorem ig_if {t : DT} {a b : DX} (ht : Ig t) (h : Ig a) (k : Ig b) : Ig (dIf t a b) := fun Δ Δ' e => by unfold dIf; rw [ht _ _ e, h _ _ e, k _ _ e]
theorem ig_seqL {a : DX} (h : Ig a) : Ig (iSeqL a) := fun Δ Δ' e => by unfold iSeqL; rw [h _ _ e]
theorem ig_seqT {a : DX} (h : Ig a) : Ig (iSeqT a) := fun Δ Δ' e => by unfold iSeqT; rw [h _ _ e]
theorem ig_yes : Ig dYes := fun _ _ _ => rfl
-- targets
theorem igg_n {i : Nat} : IgG (gN (i + 1)) := fun d Δ Δ' s h => .yes s (h.set i _)
theorem igg_nil : IgGs gsNil := fun ds Δ Δ' s h => by
  unfold gsNil
  split
  · exact .yes s h
  · exact .no
theorem igg_cons {g : DGf} {r : List D → Dn → Sto → Option (Dn × Sto)} (hg : IgG g) (hr : IgGs r) : IgGs (gsCons g r) := fun ds Δ Δ' s h => by
  unfold gsCons
  cases ds with
  | nil => exact .no
  | cons d ds =>
    simp only
    have := hg d Δ Δ' s h
    generalize g d Δ s = p at this ⊢
    generalize g d Δ' s = q at this ⊢
    cases this with
    | no => exact .no
    | yes s1 h1 => exact hr ds _ _ s1 h1
theorem igg_tp {n : Nat} {g : List D → Dn → Sto → Option (Dn × Sto)} (h : IgGs g) : IgG (gTp n g) := fun d Δ Δ' s e => by
  unfold gTp
  split
  · split
    · exact h _ _ _ s e
    · exact .no
  · exact .no
theorem lcRun_ig {I : Itd} {g : DGf} {tt : DT} {de : DX} {n : Nat} (hg : IgG g) (ht : Ig tt) (hd : Ig de) : ∀ (r : List D) (Δ Δ' : Dn) (s : Sto), Same0 Δ Δ' → lcRun I g tt de n r Δ s = lcRun I g tt de n r Δ' s
  | [], _, _, _, _ => rfl
  | d :: r, Δ, Δ', s, h => by
    unfold lcRun
    have q := hg d Δ Δ' s h
    generalize g d Δ s = p at q ⊢
    generalize g d Δ' s = p' at q ⊢
    cases q with
    | no => rfl
    | @yes Δ1 Δ2 s1 h1 =>
      simp only [ht _ _ h1, hd _ _ h1, lcRun_ig hg ht hd r Δ Δ' _ h]
theorem ig_lc {vs : List Nat} {di : DI} {g : DGf} {tt : DT} {de : DX} (hv : vs.all (fun v => decide (0 < v)) = true) (hi : Ig di) (hg : IgG g) (ht : Ig tt) (hd : Ig de) : Ig (dLc vs di g tt de) := fun Δ Δ' e => by
  unfold dLc
  rw [hi _ _ e]
  congr 1
  funext I s
  rw [lcRun_ig hg ht hd _ _ _ _ (e.wipe vs hv)]
-- statements
theorem sb_ig {α : Type} {m : M α} {Δ Δ' : Dn} {k k' : α → Sto → RS} {s : Sto} (e : Same0 Δ Δ') (h : ∀ a s1, RelS (k a s1) (k' a s1)) : RelS (sbind m Δ k s) (sbind m Δ' k' s) := by
  unfold sbind
  cases m s with
  | none => exact .no
  | some p =>
    obtain ⟨q, s1⟩ := p
    cases q with
    | ok a => exact h a s1
    | error x => exact .ex x s1 e
theorem igs_ret {a : DX} (h : Ig a) : IgS (dRet a) := fun Δ Δ' s e => by
  unfold dRet
  rw [h _ _ e]
  exact sb_ig e fun d s1 => .rt d s1
theorem igs_asg {a : DX} {g : DGf} (h : Ig a) (hg : IgG g) : IgS (dAsg a g) := fun Δ Δ' s e => by
  unfold dAsg
  rw [h _ _ e]
  refine sb_ig e fun d s1 => ?_
  have q := hg d Δ Δ' s1 e
  generalize g d Δ s1 = p at q ⊢
  generalize g d Δ' s1 = p' at q ⊢
  cases q with
  | no => exact .no
  | yes s2 h2 => exact .nx s2 h2
theorem igs_drop {a : DX} (h : Ig a) : IgS (dDrop a) := fun Δ Δ' s e => by
  unfold dDrop
  rw [h _ _ e]
  exact sb_ig e fun d s1 => .nx s1 e
theorem igs_stop : IgS dStop := fun _ _ _ _ => .no
theorem igs_nx : IgS dNx := fun Δ Δ' s e => .nx s e
theorem igs_if {t : DT} {a b : DS} (ht : Ig t) (h : IgS a) (k : IgS b) : IgS (dIfS t a b) := fun Δ Δ' s e => by
  unfold dIfS
  rw [ht _ _ e]
  refine sb_ig e fun c s1 => ?_
  cases c
  · exact k _ _ s1 e
  · exact h _ _ s1 e
theorem igs_seq {a b : DS} (h : IgS a) (k : IgS b) : IgS (dSeq a b) := fun Δ Δ' s e => by
  unfold dSeq
  have q := h Δ Δ' s e
  generalize a Δ s = p at q ⊢
  generalize a Δ' s = p' at q ⊢
  cases q with
  | no => exact .no
  | nx s1 h1 => exact k _ _ s1 h1
  | rt d s1 => exact .rt d s1
  | ex x s1 h1 => exact .ex x s1 h1
  | bk s1 h1 => exact .bk s1 h1
  | ct s1 h1 => exact .ct s1 h1
end DV

set_option maxHeartbeats 2000000
namespace DV
open PySem L2 PyProof.Rows
/-! ### slices of lists, texts and tuples; sums of tuples, empty ones too -/
def fSlA : OpS := fun x lo hi s => match x with
  | .tup xs => some (.tup (cutD xs lo hi), s)
  | x => fSl x lo hi s
theorem cut_whole {α : Type} {xs : List α} {i j : Nat} (h : i = 0 ∧ j = xs.length) : (xs.drop i).take (j - i) = xs := by
  obtain ⟨rfl, rfl⟩ := h
  simp
section
variable {X : Cx} {W : WX}
theorem de_slA {e : Expr} {lo hi : Option Expr} {da : DX} {dl dh : DPt} {pos p2 : Pos} (he : DE X W e da) (hl : DPO X W lo dl) (hh : DPO X W hi dh) : DE X W (.Subscript e (.Slice lo hi none p2) pos) (dSl fSlA da dl dh) :=
  pe_imp (pe_slice (sl_tupA.or (sl_list.or sl_str)) he hl hh) fun σ H Q ⟨Δ, φ, s, hσ, hs, h⟩ => upE_bind hσ hs h fun φ1 v H1 x s1 f1 hσ1 hs1 rx h1 =>
    upO_bind hσ1 hs1 h1 fun φ2 H2 l s2 f2 hσ2 hs2 h2 => upO_bind hσ2 hs2 h2 fun φ3 H3 u s3 f3 hσ3 hs3 h3 => by
      have p := PsO.ofS h3
      have rx3 := (rx.fu f2).fu f3
      cases rx3 <;> first | exact p.elim | skip
      · rename_i z
        simp only [fSlA, fSl] at p
        split at p
        · rename_i hz
          exact .inr (.inr ⟨z, rfl, hz, p.ok hs3 (.str _)⟩)
        · exact p.elim
      · rename_i a vs ds hq r
        simp only [fSlA] at p
        refine .inl ⟨a, vs, rfl, hq, fun hw => ?_, fun hw q hq => p.newT hs3 hq (cut_dts r _ _)⟩
        have e : DV.cutD ds l u = ds := by
          unfold DV.cutD
          rw [r.length] at hw
          exact cut_whole hw
        rw [e] at p
        exact p.ok hs3 (.tup hq r)
      · rename_i a n ha
        simp only [fSlA, fSl] at p
        split at p
        · rename_i xs e
          obtain ⟨vs, k, r⟩ := hs3.lst (lstAt_eq e) ha
          exact .inr (.inl ⟨a, vs, rfl, SqL.of k, fun q hq => p.newL hs3 hq (cut_dts r _ _)⟩)
        · exact p.elim
      · rename_i a vs ds h r
        exact .inr (.inl ⟨a, vs, rfl, h.sq, fun q hq => p.newL hs3 hq (cut_dts r _ _)⟩)
/-- t + u, both tuples -/
def fAddTA : Op2 := fun x y s => match x, y with
  | .tup xs, .tup ys => if xs.length + ys.length ≤ sizeLine then some (.tup (xs ++ ys), s) else none
  | _, _ => none
theorem dop_addTA : DOp X (binaryOp .Add) fAddTA := ⟨_, op_catA, fun φ H s x y v u Q so rx ry p => by
  cases rx <;> cases ry <;> first | exact p.elim | skip
  rename_i a vs ds h1 r1 b ws es h2 r2
  simp only [fAddTA] at p
  split at p
  · rename_i z
    refine ⟨a, b, vs, ws, rfl, rfl, h1, h2, by rw [r1.length, r2.length]; exact z, fun e => ?_, fun _ e => ?_, fun _ _ q hq => p.newT so hq (r1.append r2)⟩
    · subst e
      cases r1
      exact p.ok so (.tup h2 r2)
    · subst e
      cases r2
      rw [List.append_nil] at p
      exact p.ok so (.tup h1 r1)
  · exact p.elim⟩
end
end DV

set_option maxHeartbeats 2000000
namespace DV
open PySem L2 PyProof.Rows
/-! ### for x in e, e a list or a tuple -/
def iBoth (K : PySem.W.Frag) (te : TE) : TI := fun σ H R => te σ H fun x H1 => ∃ a, x = .ref a ∧ ((∃ xs, SqL K H1 a xs ∧ R (Itl K a) H1) ∨ ∃ xs, SqT K H1 a xs ∧ R (Itt K a) H1)
theorem pi_both {X : Cx} {tg e : Expr} {te : TE} (he : PE X e te) : PI X tg e (iBoth X.K te) := by
  refine ⟨fun pins s σ H R J ran => thn (he.run pins s σ H _ J ran) fun u t ⟨x, H1, J1, ru, a, ex, two⟩ => ?_⟩
  subst ex
  cases ru
  have fresh : ∀ c ∈ [t.heap.objs.size], FpOk X pins H1 c := fun c hc => by
    obtain rfl := List.mem_singleton.mp hc
    exact J1.fpOk (Nat.le_refl _) (J1.hok.fresh (Nat.le_refl _))
  rcases two with ⟨xs, hq, q⟩ | ⟨xs, hq, q⟩
  · obtain ⟨us, rv, p, _⟩ := J1.list hq
    exact wpAny_pyIter_list p.isList ⟨t.heap.objs.size, _, _, _, H1, rfl, J1.kept (t' := t.toks) fun c o hc => Heap.get?_push_of_some _ hc, turn_list a _, ⟨_, Heap.get?_push_size _ rfl, rfl, rfl⟩, fresh, q⟩
  · obtain ⟨us, rv, p, _⟩ := J1.tuple hq
    exact wpAny_pyIter_tuple (show t.heap.IsTuple a us.toArray from p) ⟨t.heap.objs.size, _, _, _, H1, rfl, J1.kept (t' := t.toks) fun c o hc => Heap.get?_push_of_some _ hc, turn_tuple a _, ⟨_, Heap.get?_push_size _ rfl, rfl, rfl⟩, fresh, q⟩
def iSeqA (da : DX) : DI := fun Δ => mbind (da Δ) fun x s => match x with
  | .obj n => match lstAt s n with
    | some xs => some (.ok ⟨xs, some (n, xs)⟩, s)
    | none => none
  | .tup xs => some (.ok ⟨xs, none⟩, s)
  | _ => none
theorem di_both {X : Cx} {W : WX} {tg e : Expr} {da : DX} (h : DE X W e da) : DIt X W tg e (iSeqA da) := pi_imp (pi_both h) fun σ H R ⟨Δ, φ, s, hσ, hs, h⟩ => upE_bind hσ hs h fun φ1 v H1 x s1 f1 hσ1 hs1 rx h1 => by
  split at h1
  · rename_i n
    cases rx
    rename_i a ha
    split at h1
    · rename_i xs e
      obtain ⟨vs, k, r⟩ := hs1.lst (lstAt_eq e) ha
      exact ⟨a, rfl, .inl ⟨vs, SqL.of k, h1.ok hs1 (yl_list ha)⟩⟩
    · exact h1.elim
  · obtain ⟨a, vs, rfl, hq, r⟩ := rx.tupI
    exact ⟨a, rfl, .inr ⟨vs, hq, h1.ok hs1 (yl_tup hq r)⟩⟩
  · exact h1.elim
end DV

set_option maxHeartbeats 2000000
namespace DV
open PySem L2 PyProof.Rows
/-! ### a op b op c op d, as a test -/
def tCh3 (r1 r2 r3 : R2) (ta tb tc td : TE) : TE := fun σ H Q => ta σ H fun x Ha => tb σ Ha fun y Hb => r1 x y Hb fun z Hz => ∃ k, z = .bl k ∧
  (if k = true then tc σ Hz fun w Hc => r2 y w Hc fun z2 Hy => ∃ k2, z2 = .bl k2 ∧ (if k2 = true then td σ Hy fun v Hd => r3 w v Hd Q else Q (.bl false) Hy) else Q (.bl false) Hz)
theorem pt_ch3 {X : Cx} {a b c d : Expr} {ta tb tc td : TE} {pos : Pos} {o1 o2 o3 : CmpOp} {r1 r2 r3 : R2} (h1 : OpR X (compareOp o1) r1) (h2 : OpR X (compareOp o2) r2) (h3 : OpR X (compareOp o3) r3) (ha : PE X a ta) (hb : PE X b tb) (hc : PE X c tc) (hd : PE X d td)
    (hm : lastMarks [o1, o2, o3] [b, c, d] = false := by with_unfolding_all rfl) : PT X (.Compare a [o1, o2, o3] [b, c, d] pos) (tTest (tCh3 r1 r2 r3 ta tb tc td)) := by
  refine ⟨fun pins s σ H Q J ran => isTrue_chain (thn (ha.run pins s σ H _ J ran) fun va sa ⟨x, Ha, Ja, ra, qa⟩ => test_link (thn (hb.run pins sa σ Ha _ Ja qa) fun vb sb ⟨y, Hb, Jb, rb, qb⟩ =>
    thn (h1 pins sb σ Hb x y va vb _ Jb ra rb qb) fun e1 sz ⟨z, Hz, Jz, rz, k, ez, qz⟩ => ?_)) hm⟩
  subst ez
  cases rz
  cases k with
  | false =>
    obtain ⟨k', e', q'⟩ := qz
    cases e'
    exact wpAny_truthy_bool (ite_ff ⟨Hz, Jz, q'⟩)
  | true =>
    refine wpAny_truthy_bool (ite_tt (test_link (thn (hc.run pins sz σ Hz _ Jz qz) fun vc sc ⟨w, Hc, Jc, rc, qc⟩ => thn (h2 pins sc σ Hc y w vb vc _ Jc rb rc qc) fun e2 sy ⟨z2, Hy, Jy, ry, k2, ey, qy⟩ => ?_)))
    subst ey
    cases ry
    cases k2 with
    | false =>
      obtain ⟨k', e', q'⟩ := qy
      cases e'
      exact wpAny_truthy_bool (ite_ff ⟨Hy, Jy, q'⟩)
    | true =>
      refine wpAny_truthy_bool (ite_tt (test_last (thn (hd.run pins sy σ Hy _ Jy qy) fun vd sd ⟨v, Hd, Jd, rd, qd⟩ => thn (h3 pins sd σ Hd w v vc vd _ Jd rc rd qd) fun e3 sx ⟨z3, Hx, Jx, rx, k3, ex, qx⟩ => ?_)))
      subst ex
      cases rx
      exact wpAny_truthy_bool ⟨Hx, Jx, qx⟩
def dChain3 (f g h : Op2) (da db dc dd : DX) : DX := fun Δ => mbind (da Δ) fun x => mbind (db Δ) fun y => mbind (lift2 f x y) fun z => mbind (dBl z) fun b => if b = true then mbind (dc Δ) fun w => mbind (lift2 g y w) fun z2 => mbind (dBl z2) fun b2 => if b2 = true then mbind (dd Δ) fun v => lift2 h w v else mret (.bl false) else mret (.bl false)
section
variable {X : Cx} {W : WX}
theorem ch3_read {f g h : Op2} {r1 r2 r3 : R2} (h1 : ∀ φ H s x y v u Q, So X.K φ H s → Dt X.K φ H v x → Dt X.K φ H u y → PsO X.K φ H Q (f x y s) → r1 v u H Q)
    (h2 : ∀ φ H s x y v u Q, So X.K φ H s → Dt X.K φ H v x → Dt X.K φ H u y → PsO X.K φ H Q (g x y s) → r2 v u H Q)
    (h3 : ∀ φ H s x y v u Q, So X.K φ H s → Dt X.K φ H v x → Dt X.K φ H u y → PsO X.K φ H Q (h x y s) → r3 v u H Q) (pf : Pure2 f) (pg : Pure2 g) {da db dc dd : DX} {σ : L2.St} {H : Hp} {Q : VK}
    (q : upE X.K W (dChain3 f g h da db dc dd) σ H Q) : tCh3 r1 r2 r3 (upE X.K W da) (upE X.K W db) (upE X.K W dc) (upE X.K W dd) σ H Q := by
  obtain ⟨Δ, φ, s, hσ, hs, q⟩ := q
  refine upE_bind hσ hs q fun φ1 v H1 x s1 f1 hσ1 hs1 rx q1 => upE_bind hσ1 hs1 q1 fun φ2 u H2 y s2 f2 hσ2 hs2 ry q2 => ?_
  refine h1 φ2 H2 s2 x y v u _ hs2 (rx.fu f2) ry ?_
  unfold mbind lift2 at q2
  cases e : f x y s2 with
  | none => rw [e] at q2; exact q2.elim
  | some p =>
    obtain ⟨z, s3⟩ := p
    obtain rfl := pf _ _ _ _ _ e
    rw [e] at q2
    intro φ3 w H3 f3 so3 rz
    have q3 := q2.shift f3
    cases z <;> first | exact q3.elim | skip
    rename_i b
    cases rz
    refine ⟨b, rfl, ?_⟩
    cases b with
    | false => exact iteF (q3.ok so3 (.bl _))
    | true =>
      refine iteT ?_
      refine upE_bind (hσ2.fu f3) so3 q3 fun φ4 w' H4 d s4 f4 hσ4 hs4 rd q4 => ?_
      refine h2 φ4 H4 s4 y d u w' _ hs4 ((ry.fu f3).fu f4) rd ?_
      cases e2 : g y d s4 with
      | none => rw [e2] at q4; exact q4.elim
      | some p2 =>
        obtain ⟨z2, s5⟩ := p2
        obtain rfl := pg _ _ _ _ _ e2
        rw [e2] at q4
        intro φ5 w5 H5 f5 so5 rz2
        have q5 := q4.shift f5
        cases z2 <;> first | exact q5.elim | skip
        rename_i b2
        cases rz2
        refine ⟨b2, rfl, ?_⟩
        cases b2 with
        | false => exact iteF (q5.ok so5 (.bl _))
        | true =>
          refine iteT ?_
          exact upE_bind (hσ4.fu f5) so5 q5 fun φ6 v6 H6 d6 s6 f6 hσ6 hs6 rd6 q6 => h3 φ6 H6 s6 d d6 w' v6 Q hs6 ((rd.fu f5).fu f6) rd6 (PsO.of q6)
theorem dt_chain3 {o1 o2 o3 : CmpOp} {f g h : Op2} {a b c d : Expr} {da db dc dd : DX} {pos : Pos} (p1 : DOp X (compareOp o1) f) (p2 : DOp X (compareOp o2) g) (p3 : DOp X (compareOp o3) h) (pf : Pure2 f) (pg : Pure2 g) (ha : DE X W a da) (hb : DE X W b db) (hc : DE X W c dc) (hd : DE X W d dd)
    (hm : lastMarks [o1, o2, o3] [b, c, d] = false := by with_unfolding_all rfl) : DTe X W (.Compare a [o1, o2, o3] [b, c, d] pos) (dTest (dChain3 f g h da db dc dd)) := by
  obtain ⟨r1, k1, z1⟩ := p1
  obtain ⟨r2, k2, z2⟩ := p2
  obtain ⟨r3, k3, z3⟩ := p3
  exact pt_imp (pt_ch3 k1 k2 k3 ha hb hc hd hm) fun σ H Q q => ch3_read z1 z2 z3 pf pg (bl_read q)
end
end DV

set_option maxHeartbeats 2000000
namespace DV
open PySem L2 PyProof.Rows PySem.W
/-! ### f'{x:b}' -/
def binS (i : Int) : Str := ⟨((Nat.toDigits 2 i.natAbs).map fun c => c.toNat).toArray⟩
theorem fmt_b {i : Int} {t : Tok} (h0 : 0 ≤ i) (hz : (binS i).length ≤ sizeLine) (u : Tok) : Meets (Builtin.«int.__format__» ⟨[.int i t, .str "b" u], []⟩) (fun _ R s => ∀ t' k, R (.ok (.ret (.str (binS i) t'))) { s with toks := k }) := by
  apply KPc.meets_of
  intro P0 W0 A0 s0 Q0 E0 hR
  unfold Builtin.«int.__format__»
  refine wpAny_bind (wpAny_of_eq (a := (_, _)) rfl ?_)
  refine wpAny_bind (wpAny_of_eq (a := _) rfl ?_)
  kxf_if
  refine wpAny_bind (wpAny_typeNameOf (T := "str") (typeIs_str _ _ _) (by decide) fun _ => ?_)
  refine wpAny_bind (wpAny_of_eq (a := some _) rfl ?_)
  kxf_if
  kxf_if
  refine wpAny_bind (wpAny_typeNameOfCut_int ?_)
  obtain ⟨f, hp, hty, hpr, hz0, hal, hw, hgr, hsg, hfi, hag⟩ : ∃ f : Builtin.Float.FormatSpec, Builtin.Float.parseFormatSpec (Str.ofString "b").cps.toList "int" 62 = .ok f ∧ f.type = some 98 ∧ f.precision = none ∧ f.noNeg0 = false ∧ f.alt = false ∧ f.width = none ∧ f.grouping = none ∧ f.sign = none ∧ f.fill = 32 ∧ f.align = 62 := ⟨_, rfl, rfl, rfl, rfl, rfl, rfl, rfl, rfl, rfl, rfl⟩
  simp only [hp, hty, Option.getD_some]
  rw [if_pos (by decide)]
  show wpAny _ _ (if _ then _ else _) _ _ _
  rw [if_neg (by simp [hpr])]
  show wpAny _ _ (if _ then _ else _) _ _ _
  rw [if_neg (by simp [hz0])]
  show wpAny _ _ (if _ then _ else _) _ _ _
  rw [if_neg (by decide)]
  show wpAny _ _ (if _ then _ else _) _ _ _
  rw [if_neg (by decide)]
  show wpAny _ _ (if _ then _ else _) _ _ _
  rw [if_neg (by simp [hw])]
  have neg : decide (i < 0) = false := decide_eq_false (by omega)
  have dg : (Nat.toDigits 2 i.natAbs).isEmpty = false := by
    cases h : Nat.toDigits 2 i.natAbs with
    | nil => exact absurd h (by have := Nat.length_toDigits_pos (b := 2) (n := i.natAbs); intro z; rw [z] at this; simp at this)
    | cons a r => rfl
  have key : ∀ Z : Str, Z = binS i → wpAny (model P0 W0) A0 (retStr Z) Q0 E0 s0 := fun Z e => KXf.ret_text e (by rw [e]; exact hz) hR
  refine key _ ?_
  simp only [neg, hal, Bool.false_eq_true, if_false, show ((98 : Nat) == 88) = false by decide, show ((2 : Nat) == 10) = false by decide]
  conv => lhs; whnf
  have dg2 : (List.map (fun c : Char => c.toNat) (Nat.toDigits 2 i.natAbs)).isEmpty = false := by rw [List.isEmpty_map]; exact dg
  simp [binS, hw, hgr, hsg, hfi, hag, dg2]
  cases instDecidableEqBool (f.align == 60) true <;> simp
section
variable {X : Cx} {W : WX}
def tFmtB (te : TE) : TE := fun σ H Q => te σ H fun x H1 => ∃ i : Int, x = .int i ∧ 0 ≤ i ∧ (binS i).length ≤ sizeLine ∧ Q (.str (binS i)) H1
theorem pe_fmtB {e : Expr} {te : TE} {p1 p2 p3 p4 : Pos} {j : Nat} (he : PE X e te) : PE X (.JoinedStr [.FormattedValue e (-1) (some (.JoinedStr [.Constant (.str "b") j p1] p2)) p3] p4) (tFmtB te) := by
  refine ⟨fun pins s σ H Q J ran => wpAny_JoinedStr_one (wpAny_FormattedValue_spec (thn (he.run pins s σ H _ J ran) fun u s1 ⟨x, H1, J1, ru, i, ex, i0, iz, q⟩ => ?_))⟩
  subst ex
  obtain ⟨t, rfl⟩ := ru
  refine wpAny_JoinedStr_one (Calls.Constant_str ⟨"b", _, rfl, ?_⟩)
  exact KXf.field_int rfl (by decide) (by decide) (fun u => fmt_b i0 iz u) fun t' k => ⟨.str (binS i), H1, (J1.tok _).tok _, ⟨_, rfl⟩, q⟩
def fFmtB : Op1 := fun x s => match x with
  | .int i => if 0 ≤ i ∧ (binS i).length ≤ sizeLine then some (.str (binS i), s) else none
  | _ => none
theorem de_fmtB {e : Expr} {da : DX} {p1 p2 p3 p4 : Pos} {j : Nat} (he : DE X W e da) : DE X W (.JoinedStr [.FormattedValue e (-1) (some (.JoinedStr [.Constant (.str "b") j p1] p2)) p3] p4) (dOp1 fFmtB da) :=
  pe_imp (pe_fmtB he) fun σ H Q ⟨Δ, φ, s, hσ, hs, h⟩ => upE_bind hσ hs h fun φ1 v H1 x s1 f1 hσ1 hs1 rx h1 => by
    have p := PsO.of1 h1
    cases rx <;> first | exact p.elim | skip
    rename_i i
    simp only [fFmtB] at p
    split at p
    · rename_i c
      exact ⟨i, rfl, c.1, c.2, p.ok hs1 (.str _)⟩
    · exact p.elim
end
/-! ### s.zfill(n) -/
def fZfill : OpM := fun x xs s => match x, xs with
  | .str a, [.int i] => if PadOk i = true then some (.str (Txt.zfill a i), s) else none
  | _, _ => none
theorem dm_zfill {X : Cx} : DMt X "str.zfill" fZfill := ⟨_, mt_zfill, fun φ H s v x vs xs Q so rx rs p => by
  unfold fZfill at p
  split at p
  · obtain ⟨u, rfl, r⟩ := dts1 rs
    cases rx
    cases r
    split at p
    · rename_i hz
      exact ⟨_, _, rfl, rfl, hz, p.ok so (.str _)⟩
    · exact p.elim
  · exact p.elim⟩
end DV

set_option maxHeartbeats 4000000
namespace DV
open PySem L2 PyProof.Rows PySem.NumText PySem.Calls
/-! ### int(t, 2), t of the signs 0 and 1 -/
def Bin (c : Nat) : Prop := c = 48 ∨ c = 49
instance (c : Nat) : Decidable (Bin c) := by unfold Bin; exact inferInstance
theorem Bin.hex {c : Nat} (h : Bin c) : Hx.IsHex c := by
  unfold Bin at h
  unfold Hx.IsHex
  omega
theorem Bin.all {cs : List Nat} (h : ∀ c ∈ cs, Bin c) : ∀ c ∈ cs, Hx.IsHex c := fun c m => (h c m).hex
theorem bin_lt {c : Nat} (h : Bin c) : Hx.hv c < 2 := by
  rcases h with rfl | rfl <;> decide
def binNum (l : List Nat) : Nat := l.foldl (fun n c => n * 2 + Hx.hv c) 0
theorem bin_step {ds : Array Nat} {b : Bool} {c : Nat} (h : Bin c) : NumText.step 2 (ds, b) c = some (ds.push (Hx.hv c), true) := by
  have r := Hx.hex_rng h.hex
  unfold NumText.step
  rw [if_neg (fun z => r.2.2 (beq_iff_eq.mp z)), Hx.digit_hex h.hex]
  exact if_pos (bin_lt h)
theorem bin_fold : ∀ (l : List Nat) (ds : Array Nat), (∀ c ∈ l, Bin c) → l.foldlM (NumText.step 2) (ds, true) = some (l.foldl (fun q c => q.push (Hx.hv c)) ds, true)
  | [], _, _ => rfl
  | a :: r, ds, h => by
    rw [List.foldlM_cons, bin_step (h a (by simp))]
    show r.foldlM (NumText.step 2) (ds.push (Hx.hv a), true) = _
    exact bin_fold r _ fun c m => h c (by simp [m])
theorem bin_digits {l : List Nat} (h : ∀ c ∈ l, Bin c) (ne : l ≠ []) : digits? 2 l = some (l.foldl (fun q c => q.push (Hx.hv c)) #[]) := by
  cases l with
  | nil => exact absurd rfl ne
  | cons a r =>
    unfold digits?
    rw [List.foldlM_cons, bin_step (h a (by simp))]
    show (r.foldlM (NumText.step 2) ((#[] : Array Nat).push (Hx.hv a), true)).bind _ = _
    rw [bin_fold r _ fun c m => h c (by simp [m])]
    rfl
theorem bin_push : ∀ (l : List Nat) (ds : Array Nat), (l.foldl (fun q c => q.push (Hx.hv c)) ds).foldl (fun n d => n * 2 + d) 0 = l.foldl (fun n c => n * 2 + Hx.hv c) (ds.foldl (fun n d => n * 2 + d) 0)
  | [], _ => rfl
  | a :: r, ds => by
    rw [List.foldl_cons, bin_push r (ds.push (Hx.hv a)), List.foldl_cons]
    congr 1
    simp
theorem bin_based {l : List Nat} (h : ∀ c ∈ l, Bin c) : based 2 l = (2, false, l) := by
  match l, h with
  | [], _ => rfl
  | [a], h => rcases h a (by simp) with rfl | rfl <;> rfl
  | a :: c :: r, h => rcases h a (by simp) with rfl | rfl <;> rcases h c (by simp) with rfl | rfl <;> rfl
theorem bin_read {l : List Nat} (h : ∀ c ∈ l, Bin c) (ne : l ≠ []) : (int_private% "readNumeral") 0 2 l = (int_private% "Numeral.value") ((binNum l : Nat) : Int) := by
  have hr : ∀ c ∈ l.reverse, Bin c := fun c m => h c (List.mem_reverse.mp m)
  refine (readNumeral_eq 0 2 l).trans ?_
  rw [Hx.dropB (Bin.all h), Hx.signH (Bin.all h)]
  show judge 0 false (based 2 l).1 (based 2 l).2.1 (digits? (based 2 l).1 (((based 2 l).2.2.reverse.dropWhile blank).reverse)) = _
  rw [bin_based h]
  show judge 0 false 2 false (digits? 2 ((l.reverse.dropWhile blank).reverse)) = _
  rw [Hx.dropB (Bin.all hr), List.reverse_reverse, bin_digits h ne]
  show (int_private% "Numeral.value") (((l.foldl (fun q c => q.push (Hx.hv c)) (#[] : Array Nat)).foldl (fun n d => n * 2 + d) 0 : Nat) : Int) = _
  have z : (#[] : Array Nat).foldl (fun n d => n * 2 + d) 0 = 0 := by first | rfl | simp
  rw [bin_push, z]
  rfl
theorem bin_gives {x : Str} {u t : Tok} (hl : x.length ≤ 640) (h : ∀ c ∈ x.cps.toList, Bin c) (ne : x.cps.toList ≠ []) :
    Gives (Builtin.«int.__new__» ⟨[.type "int", .str x u, .int 2 t], []⟩) (.int ((binNum x.cps.toList : Nat) : Int)) :=
  .of_wp fun M A E s Q hQ => by
    obtain ⟨hp, g, d, tk, os⟩ := s
    have q1 := F.conv_sub_int
    have q2 := F.madeHere_int
    have q3 : typeOf (.str x u) = pure (.type "str") := rfl
    obtain ⟨e1, e2⟩ := Hx.seen_hex (Bin.all h)
    have a1 : (numSeenOf x).length ≤ 640 := by rw [e2, Array.length_toList]; exact hl
    have a2 : (int_private% "readNumeral") 0 2 (numSeenOf x) = (int_private% "Numeral.value") ((binNum x.cps.toList : Nat) : Int) := by rw [e2]; exact bin_read h ne
    have a3 : ((numSeenOf x).length == (numTextOf x).length) = true := by rw [e1, e2]; exact beq_self_eq_true _
    have all := Hx.Hid.mk (And.intro a1 (And.intro a2 a3))
    clear a1 a2 a3 e1 e2 hl ne h
    repeat (any_goals (first
      | assumption
      | ((with_reducible show wpAny _ _ ((int_private% "intFromText") _ _ _) _ _ _); refine Hx.wp_textB all.out.1 all.out.2.1 all.out.2.2 ?_)
      | wp_step))
    all_goals first | exact ⟨_, rfl, hQ⟩ | skip
def rBin : List V → Hp → VK → Prop := fun xs H Q => ∃ x : Str, xs = [.str x, .int 2] ∧ x.cps.toList ≠ [] ∧ x.length ≤ 640 ∧ (∀ c ∈ x.cps.toList, Bin c) ∧ Q (.int ((binNum x.cps.toList : Nat) : Int)) H
theorem bin_call {X : Cx} : CallR X (.type "int") rBin := by
  intro pins s σ H xs us Q J r ⟨x, ex, ne, hl, hb, q⟩
  subst ex
  obtain ⟨u, v, rfl, ru, rv⟩ := vals2 r
  obtain ⟨t1, rfl⟩ := ru
  obtain ⟨t2, rfl⟩ := rv
  exact callType_new F.called_int F.newNe_int (Hx.typeCall_int_2 _ _) (Hx.newCall_int_2 _ _) (fun o => F.initArgs_range_2 o _ _) F.entry_int_new (bin_gives hl hb ne).meets (show (Made.int ((binNum x.cps.toList : Nat) : Int)).post _ s from ⟨rfl, .int ((binNum x.cps.toList : Nat) : Int), H, J.tok _, ⟨_, rfl⟩, q⟩)
def allBin (l : List Nat) : Bool := l.all fun c => decide (Bin c)
/-- int(x), int(x, 2) -/
def fIntB : OpN := fun xs s => match xs with
  | [.str x, .int 2] => if (!x.cps.toList.isEmpty && decide (x.length ≤ 640) && allBin x.cps.toList) = true then some (.int ((binNum x.cps.toList : Nat) : Int), s) else none
  | _ => none
theorem dc_intB {X : Cx} : DCall X (.type "int") fIntB := ⟨_, bin_call, fun φ H s vs ds Q so rx p => by
  unfold fIntB at p
  split at p
  · rename_i x
    cases rx with
    | cons r1 r2 => cases r2 with
      | cons r2 r3 =>
        cases r3
        cases r1
        cases r2
        split at p
        · rename_i c
          simp only [Bool.and_eq_true, Bool.not_eq_true', decide_eq_true_eq] at c
          refine ⟨x, rfl, fun z => ?_, c.1.2, fun k hk => ?_, p.ok so (.int _)⟩
          · rw [z] at c
            exact absurd c.1.1 (by simp)
          · exact of_decide_eq_true (List.all_eq_true.mp c.2 k hk)
        · exact p.elim
  · exact p.elim⟩
end DV

set_option maxHeartbeats 2000000
namespace DV
open PySem L2 PyProof.Rows
/-! ### all and any of a list of bools -/
def boolsOf : List D → Option (List Bool)
  | [] => some []
  | .bl b :: r => (boolsOf r).map (b :: ·)
  | _ :: _ => none
theorem boolsOf_dts {K : PySem.W.Frag} {φ : List Addr} {H : Hp} : ∀ {vs : List V} {xs : List D} {bs : List Bool}, Dts K φ H vs xs → boolsOf xs = some bs → vs = bs.map V.bl
  | _, _, _, .nil, e => by cases e; rfl
  | _, x :: r, _, .cons rx rr, e => by
    cases x <;> first | (cases e; done) | skip
    simp only [boolsOf, Option.map_eq_some_iff] at e
    obtain ⟨ms, e, rfl⟩ := e
    cases rx
    rw [boolsOf_dts rr e]
    rfl
def fBs (g : List Bool → Bool) : OpN := fun xs s => match xs with
  | [.obj n] => match lstAt s n with
    | some ys => match boolsOf ys with
      | some bs => some (.bl (g bs), s)
      | none => none
    | none => none
  | _ => none
section
variable {X : Cx}
theorem fbs_read {g : List Bool → Bool} {φ : List Addr} {H : Hp} {s : Sto} {vs : List V} {ds : List D} {Q : VK} (so : So X.K φ H s) (rx : Dts X.K φ H vs ds) (p : PsO X.K φ H Q (fBs g ds s)) :
    ∃ (a : Addr) (bs : List Bool), vs = [V.ref a] ∧ SqL X.K H a (bs.map V.bl) ∧ Q (.bl (g bs)) H := by
  unfold fBs at p
  split at p
  · obtain ⟨v, rfl, r⟩ := dts1 rx
    cases r
    rename_i n a ha
    split at p
    · rename_i ys e
      split at p
      · rename_i bs e2
        obtain ⟨vs, k, r⟩ := so.lst (lstAt_eq e) ha
        have ev := boolsOf_dts r e2
        subst ev
        exact ⟨a, bs, rfl, SqL.of k, p.ok so (.bl _)⟩
      · exact p.elim
    · exact p.elim
  · exact p.elim
def fAll : OpN := fBs fun bs => bs.all id
def fAny : OpN := fBs fun bs => bs.any id
theorem dc_all (hc : X.calm = true) : DCall X (.builtin "all") fAll := ⟨_, cr_all hc, fun φ H s vs ds Q so rx p => fbs_read so rx p⟩
theorem dc_any (hc : X.calm = true) : DCall X (.builtin "any") fAny := ⟨_, cr_any hc, fun φ H s vs ds Q so rx p => fbs_read so rx p⟩
end
end DV

set_option maxHeartbeats 2000000
namespace DV
open PySem L2 PyProof.Rows
/-! ### dict(ps), ps a list of pairs -/
def pairsD : List D → Option (List (Key × D))
  | [] => some []
  | .tup [x, y] :: r => match keyD x, pairsD r with
    | some k, some q => some ((k, y) :: q)
    | _, _ => none
  | _ :: _ => none
def mergeD (acc more : List (Key × D)) : List (Key × D) := more.foldl (fun q kv => putKD q kv.1 kv.2) acc
theorem Prs.mergeD {R : V → D → Prop} : ∀ {ws : List (Key × V)} {es : List (Key × D)} {vs : List (Key × V)} {ds : List (Key × D)}, Prs R ws es → Prs R vs ds → Prs R (mergeK vs ws) (DV.mergeD ds es)
  | _, _, _, _, .nil, r => r
  | _, _, _, _, .cons h t, r => by
    unfold mergeK DV.mergeD
    rw [List.foldl_cons, List.foldl_cons]
    exact Prs.mergeD t (r.put h)
theorem pairs_dts {K : PySem.W.Frag} {φ : List Addr} {H : Hp} : ∀ {vs : List V} {xs : List D} {kvs : List (Key × D)}, Dts K φ H vs xs → pairsD xs = some kvs →
    ∃ (ps : List Addr) (ws : List (Key × V)), vs = ps.map V.ref ∧ Paired (fun p kv => SqT K H p [kV kv.1, kv.2]) ps ws ∧ Prs (Dt K φ H) ws kvs
  | _, _, _, .nil, e => by
    cases e
    exact ⟨[], [], rfl, .nil, .nil⟩
  | _, x :: r, _, .cons rx rr, e => by
    unfold pairsD at e
    split at e
    · rename_i h0
      cases h0
    · rename_i x1 y1 r1 heq
      cases heq
      split at e
      · rename_i k q e1 e2
        cases e
        obtain ⟨ps, ws, rfl, hp, hr⟩ := pairs_dts rr e2
        obtain ⟨a, us, rfl, hq, ru⟩ := rx.tupI
        cases ru with
        | cons r1 ru => cases ru with
          | cons r2 ru =>
            cases ru
            rename_i u1 u2
            have ek := keyD_kV r1 e1
            subst ek
            exact ⟨a :: ps, (k, u2) :: ws, rfl, .cons hq hp, .cons r2 hr⟩
      · cases e
    · cases e
def fDictP : OpN := fun xs s => match xs with
  | [.obj n] => match lstAt s n with
    | some ys => match pairsD ys with
      | some kvs => some (.obj s.length, s ++ [.dK (mergeD [] kvs)])
      | none => none
    | none => none
  | _ => none
theorem dc_dictP {X : Cx} (hc : X.calm = true) : DCall X (.type "dict") fDictP := ⟨_, call_dictP hc, fun φ H s vs ds Q so rx p => by
  unfold fDictP at p
  split at p
  · obtain ⟨v, rfl, r⟩ := dts1 rx
    cases r
    rename_i n a ha
    split at p
    · rename_i ys e
      split at p
      · rename_i kvs e2
        obtain ⟨us, k, r⟩ := so.lst (lstAt_eq e) ha
        obtain ⟨ps, ws, rfl, hp, hr⟩ := pairs_dts r e2
        refine ⟨a, ps, ws, rfl, SqL.of k, hp, fun q hq => ?_⟩
        have m : Prs (Dt X.K φ H) (mergeK [] ws) (mergeD [] kvs) := Prs.mergeD hr .nil
        exact p _ _ _ (fu_newO hq) (so.newO (o := .dK (mergeD [] kvs)) hq ⟨_, upd_same, m.fu (fu_newO hq)⟩) (obj_new so)
      · exact p.elim
    · exact p.elim
  · exact p.elim⟩
end DV

set_option maxHeartbeats 2000000
namespace DV
open PySem L2 PyProof.Rows
section
variable {X : Cx}
/-! ### min of a tuple of ints -/
theorem foldl_min (a : Int) : ∀ r : List Int, r.foldl min a = r.foldl minI a := fun r => by
  have e : (fun a b : Int => min a b) = minI := by
    funext a b
    unfold minI
    by_cases h : b < a
    · rw [if_pos h]; omega
    · rw [if_neg h]; omega
  show r.foldl (fun a b : Int => min a b) a = _
  rw [e]
def fMinT : OpN := fun xs s => match xs with
  | [.tup ys] => match intsOf ys with
    | some ns => if 0 < ns.length then some (.int (minL ns), s) else none
    | none => none
  | _ => none
def rMinT (K : PySem.W.Frag) : List V → Hp → VK → Prop := fun vs H Q => ∃ (a : Addr) (ns : List Int), vs = [V.ref a] ∧ SqT K H a (ns.map V.int) ∧ 0 < ns.length ∧ Q (.int (minL ns)) H
theorem cr_minT (hc : X.calm = true) (hu : X.A.units + 66 < cLine) : CallR X (.builtin "min") (rMinT X.K) := by
  intro pins s σ H vs us Q I r h
  obtain ⟨a, ns, rfl, hs, hne, q⟩ := h
  obtain ⟨its, rv, hl, _⟩ := I.tuple hs
  rw [Vals.ref1 r]
  cases ns with
  | nil => exact absurd hne (Nat.lt_irrefl 0)
  | cons n r =>
    obtain ⟨as, hr⟩ := Dp.readsAll I _ _ its (dpAll_ints (n :: r)) rv
    have al : PySem.W.AlikeAll ((n :: r).map PyData.int) := ⟨fun x hx y hy => by
      obtain ⟨i, _, rfl⟩ := List.mem_map.mp hx
      obtain ⟨j, _, rfl⟩ := List.mem_map.mp hy
      rfl, fun x hx => by
      obtain ⟨i, _, rfl⟩ := List.mem_map.mp hx
      exact fun z => nomatch z⟩
    have dp : PyData.depthAll ((n :: r).map PyData.int) = 0 := PySem.W.depth_ints (n :: r)
    obtain ⟨o, ho, hcl, m, hd⟩ := hl
    refine PySem.W.min_tuple_data (x := .int n) (xs := r.map .int) (I.ok.hd hc) ⟨o, ho, hcl, m, hd⟩ hr al (by rw [List.map_cons] at dp; rw [dp]; omega) fun i v h' tk bs hv rd hk => ?_
    rw [PySem.W.minD_ints, foldl_min] at rd
    cases rd
    exact ⟨.int (minL (n :: r)), H, I.kept hk, ⟨_, rfl⟩, q⟩
theorem dc_minT (hc : X.calm = true) (hu : X.A.units + 66 < cLine) : DCall X (.builtin "min") fMinT := ⟨_, cr_minT hc hu, fun φ H s vs ds Q so rx p => by
  unfold fMinT at p
  split at p
  · obtain ⟨v, rfl, r⟩ := dts1 rx
    obtain ⟨a, ws, rfl, hq, r⟩ := r.tupI
    split at p
    · rename_i ns e
      split at p
      · rename_i hz
        rw [intsOf_eq e] at r
        rw [r.ints] at hq
        exact ⟨a, ns, rfl, hq, hz, p.ok so (.int _)⟩
      · exact p.elim
    · exact p.elim
  · exact p.elim⟩
def fMinA : OpN := orN fMin fMinT
theorem dc_minA (hc : X.calm = true) (hu : X.A.units + 66 < cLine) : DCall X (.builtin "min") fMinA := (dc_min hc).or (dc_minT hc hu)
end
end DV

set_option maxHeartbeats 2000000
namespace PySem
open Sem (wp)
open PySem.W (kdx_alive)
/-! ### list(zip(xs, ys)) of two lists -/
theorem zip_no_len : typeLookup (.type "zip") "__len__" = pure none := by rw [typeLookup_type, builtinLookup_eq_fast]; kernel_rfl
theorem zip_no_hint : typeLookup (.type "zip") "__length_hint__" = pure none := by rw [typeLookup_type, builtinLookup_eq_fast]; kernel_rfl
def refsA (B i : Nat) : Array Value := ((List.range i).map fun j => Value.ref (B + j)).toArray
theorem refsA_push (B i : Nat) : (refsA B i).push (.ref (B + i)) = refsA B (i + 1) := by unfold refsA; simp [List.range_succ]
theorem refsA_size (B i : Nat) : (refsA B i).size = i := by simp [refsA]
structure ZAt (z TI TO i1 i2 l1 l2 S : Addr) (xs ys : Array Value) (B i : Nat) (h : Heap) : Prop where
  ti : IsPair h TI (.ref i1) (.ref i2)
  n1 : h.IsListIter i1 l1 i
  n2 : h.IsListIter i2 l2 i
  li1 : h.IsList l1 xs
  li2 : h.IsList l2 ys
  zi : (IsZip h z TI TO .none ∧ ∃ a b, IsPair h TO a b) ∨ ∃ T f oT, IsZipHeld h z TI TO T f ∧ h.get? T = some oT ∧ T ≠ z ∧ T ≠ i1 ∧ T ≠ i2 ∧ T ≠ S
  sz : h.objs.size = B + i
  prs : ∀ j x y, j < i → xs[j]? = some x → ys[j]? = some y → IsPair h (B + j) x y
  out : ∃ c, h.get? S = some { cls := .type "list", dict := none, data := .seq (refsA B i) c, slots := #[] }
structure ZOff (z TI TO i1 i2 l1 l2 S : Addr) (B : Nat) : Prop where
  sz : S ≠ z
  sTI : S ≠ TI
  sTO : S ≠ TO
  s1 : S ≠ i1
  s2 : S ≠ i2
  sl1 : S ≠ l1
  sl2 : S ≠ l2
  bz : z < B
  bTO : TO < B
  b1 : i1 < B
  b2 : i2 < B
  bS : S < B
section
variable {prog : Program} {w : World} {A : Around} {E : Value → Shared → Prop} {s : Shared} {z TI TO i1 i2 l1 l2 S : Addr} {xs ys : Array Value} {B : Nat}
def ZKeep (z TO i1 i2 S : Addr) (h h' : Heap) : Prop := ∀ b o, b ≠ z → b ≠ TO → b ≠ i1 → b ≠ i2 → b ≠ S → h.get? b = some o → h'.get? b = some o
theorem ZKeep.trans {h h1 h2 : Heap} (a : ZKeep z TO i1 i2 S h h1) (b : ZKeep z TO i1 i2 S h1 h2) : ZKeep z TO i1 i2 S h h2 := fun c o c1 c2 c3 c4 c5 e => b c o c1 c2 c3 c4 c5 (a c o c1 c2 c3 c4 c5 e)
theorem add_lt_ne {b B j : Nat} (h : b < B) : B + j ≠ b := by omega
theorem zip_step (D : ZipApart z TI TO i1 i2 l1 l2) (O : ZOff z TI TO i1 i2 l1 l2 S B) {i : Nat} (st : ZAt z TI TO i1 i2 l1 l2 S xs ys B i s.heap) {x y : Value} (ex : xs[i]? = some x) (ey : ys[i]? = some y) {Q : Option Value → Shared → Prop}
    (hQ : ∀ h', IsPair h' TI (.ref i1) (.ref i2) → h'.IsListIter i1 l1 (i + 1) → h'.IsListIter i2 l2 (i + 1) → h'.IsList l1 xs → h'.IsList l2 ys →
      (∃ T f oT, IsZipHeld h' z TI TO T f ∧ h'.get? T = some oT ∧ T ≠ z ∧ T ≠ i1 ∧ T ≠ i2 ∧ T ≠ S) → h'.objs.size = B + (i + 1) → (∀ j u v, j < i + 1 → xs[j]? = some u → ys[j]? = some v → IsPair h' (B + j) u v) →
      (∃ c, h'.get? S = some { cls := .type "list", dict := none, data := .seq (refsA B i) c, slots := #[] }) → ZKeep z TO i1 i2 S s.heap h' → Q (some (.ref (B + i))) { s with heap := h' }) :
    wpAny (model prog w) A (pyNext (.ref z)) Q E s := by
  obtain ⟨hTI, h1, h2, hl1, hl2, hz, sz, prs, c, hS⟩ := st
  have lt : ∀ {c o}, s.heap.get? c = some o → s.heap.objs.size ≠ c := fun e => Nat.ne_of_gt (Heap.lt_size e)
  have n1 : s.heap.objs.size ≠ i1 := let ⟨_, e, _⟩ := h1; lt e
  have n2 : s.heap.objs.size ≠ i2 := let ⟨_, e, _⟩ := h2; lt e
  have nS := lt hS
  have key : ∀ h' : Heap, (∀ c o, c ≠ z → c ≠ TO → c ≠ i1 → c ≠ i2 → s.heap.get? c = some o → h'.get? c = some o) → h'.IsListIter i1 l1 (i + 1) → h'.IsListIter i2 l2 (i + 1) → IsPair h' s.heap.objs.size x y → h'.objs.size = s.heap.objs.size + 1 →
      (∃ T f oT, IsZipHeld h' z TI TO T f ∧ h'.get? T = some oT ∧ T ≠ z ∧ T ≠ i1 ∧ T ≠ i2 ∧ T ≠ S) → Q (some (.ref s.heap.objs.size)) { s with heap := h' } := fun h' hk a3 a4 a5 a6 zh => by
    have q := hQ h' (hk _ _ D.TIz D.TITO D.TIi1 D.TIi2 hTI) a3 a4 (hl1.at fun o e => hk _ o D.l1z D.l1TO D.l1i1 D.l1i2 e) (hl2.at fun o e => hk _ o D.l2z D.l2TO D.l2i1 D.l2i2 e) zh (by rw [a6, sz, Nat.add_assoc]) (fun j u v hj hu hv => by
      by_cases hji : j = i
      · subst hji
        rw [ex] at hu
        rw [ey] at hv
        cases hu
        cases hv
        rw [← sz]
        exact a5
      · exact hk _ _ (add_lt_ne O.bz) (add_lt_ne O.bTO) (add_lt_ne O.b1) (add_lt_ne O.b2) (prs j u v (by omega) hu hv)) ⟨c, hk _ _ O.sz O.sTO O.s1 O.s2 hS⟩ (fun b o c1 c2 c3 c4 _ e => hk b o c1 c2 c3 c4 e)
    rw [sz]
    exact q
  rcases hz with ⟨hz, a, b, hTO⟩ | ⟨T, f, oT, hz, hT, r1, r2, r3, r4⟩
  · exact wpAny_pyNext_zip_item D hz hTI hTO h1 h2 hl1 hl2 ex ey fun h' a1 a2 a3 a4 a5 a6 hk => key h' hk a3 a4 a5 a6 ⟨s.heap.objs.size, false, _, a1, a5, lt hz, n1, n2, nS⟩
  · exact wpAny_pyNext_zip_item_held D hz hT hTI h1 h2 hl1 hl2 ex ey fun h' a1 a3 a4 a5 a6 hk => key h' (fun c o c1 _ c3 c4 e => hk c o c1 c3 c4 e) a3 a4 a5 a6 ⟨T, true, oT, a1, hk _ _ r1 r2 r3 hT, r1, r2, r3, r4⟩
theorem zip_stop (hh : A.handled = none) (D : ZipApart z TI TO i1 i2 l1 l2) {n : Nat} (st : ZAt z TI TO i1 i2 l1 l2 S xs ys B n s.heap) (hx : xs.size = n) {Q : Option Value → Shared → Prop} (hQ : ∀ h', ZKeep z TO i1 i2 S s.heap h' → (∀ c o, c ≠ z → c ≠ TO → c ≠ i1 → c ≠ i2 → s.heap.get? c = some o → h'.get? c = some o) → Q none { s with heap := h' }) :
    wpAny (model prog w) A (pyNext (.ref z)) Q E s := by
  obtain ⟨hTI, h1, h2, hl1, hl2, hz, sz, prs, c, hS⟩ := st
  have hend : xs[n]? = none ∨ ys[n]? = none := .inl (Array.getElem?_eq_none (by rw [hx]; exact Nat.le_refl _))
  rcases hz with ⟨hz, a, b, hTO⟩ | ⟨T, f, oT, hz, hT, r1, r2, r3, r4⟩
  · exact wpAny_pyNext_zip_end hh D hz hTI hTO h1 h2 hl1 hl2 hend fun h' hk => hQ h' (fun c o c1 c2 c3 c4 _ e => hk c o c1 c2 c3 c4 e) fun c o c1 c2 c3 c4 e => hk c o c1 c2 c3 c4 e
  · exact wpAny_pyNext_zip_end_held hh D hz hT hTI h1 h2 hl1 hl2 hend fun h' hk => hQ h' (fun c o c1 _ c3 c4 _ e => hk c o c1 c3 c4 e) fun c o c1 _ c3 c4 e => hk c o c1 c3 c4 e
theorem zip_drain {n : Nat} {R : Result → Shared → Prop} (hh : A.handled = none) (D : ZipApart z TI TO i1 i2 l1 l2) (O : ZOff z TI TO i1 i2 l1 l2 S B) (hn : n ≤ sizeLine) (hx : xs.size = n) (hy : ys.size = n) (res : Value) (h0 : Heap)
    (hR : ∀ h', ZKeep z TO i1 i2 S h0 h' → (∃ c, h'.get? S = some { cls := .type "list", dict := none, data := .seq (refsA B n) c, slots := #[] }) → (∀ j x y, xs[j]? = some x → ys[j]? = some y → IsPair h' (B + j) x y) → R (.ok (.ret res)) { s with heap := h' }) :
    ∀ (m i : Nat) (h : Heap), i + m = n → ZAt z TI TO i1 i2 l1 l2 S xs ys B i h → ZKeep z TO i1 i2 S h0 h → codeAny (model prog w) A (.builtin "list.extend.loop" ⟨[.ref S, .ref z, res], []⟩) R { s with heap := h } := by
  intro m
  induction m with
  | zero =>
    intro i h him st hk
    have hin : i = n := by omega
    subst hin
    refine codeAny_builtin F.entry_extend_loop ?_
    rw [Around.under_plainId F.plain_extend_loop _]
    show wpAny _ A.in1 (pyNext (.ref z) >>= _) _ _ _
    refine wpAny_bind (zip_stop (A := A.in1) (s := { s with heap := h }) hh D st hx fun h' k1 k2 => ?_)
    obtain ⟨c, hS⟩ := st.out
    exact wpAny_pure (hR h' (hk.trans k1) ⟨c, k2 _ _ O.sz O.sTO O.s1 O.s2 hS⟩ fun j x y ej ek => k2 _ _ (add_lt_ne O.bz) (add_lt_ne O.bTO) (add_lt_ne O.b1) (add_lt_ne O.b2) (st.prs j x y (by rw [← hx]; exact (Array.getElem?_eq_some_iff.mp ej).1) ej ek))
  | succ m ih =>
    intro i h him st hk
    have hix : i < xs.size := by omega
    have hiy : i < ys.size := by omega
    refine codeAny_builtin F.entry_extend_loop ?_
    rw [Around.under_plainId F.plain_extend_loop _]
    show wpAny _ A.in1 (pyNext (.ref z) >>= _) _ _ _
    refine wpAny_bind (zip_step (A := A.in1) (s := { s with heap := h }) D O st (Array.getElem?_eq_getElem hix) (Array.getElem?_eq_getElem hiy) fun h' a1 a2 a3 a4 a5 a6 a7 a8 ⟨c, hS⟩ a10 => ?_)
    show wpAny _ A.in1 (updateSeq S (·.push (.ref (B + i))) >>= _) _ _ _
    refine wpAny_bind ?_
    have oth : ∀ b o, b ≠ S → h'.get? b = some o → (h'.update S (Obj.mapSeq (·.push (.ref (B + i))))).get? b = some o := fun b o hb e => (Heap.get?_update_other _ _ (Ne.symm hb)).trans e
    have hS2 := Heap.get?_update_self (Obj.mapSeq (·.push (.ref (B + i)))) hS rfl
    refine wpAny_updateSeq hS rfl (wpAny_pure ⟨plainId_quiet F.plain_extend_loop _, ih (i + 1) _ (by omega) ⟨oth _ _ (Ne.symm O.sTI) a1, ?_, ?_, ?_, ?_, .inr ?_, by rw [Heap.size_after_update]; exact a7, fun j u v hj hu hv => oth _ _ (add_lt_ne O.bS) (a8 j u v hj hu hv), ?_⟩ ?_⟩)
      (by rw [refsA_size]; omega) (by show ((refsA B i).push _).size ≤ sizeLine + 1; rw [Array.size_push, refsA_size]; omega)
    · exact a2.at fun o e => oth _ o (Ne.symm O.s1) e
    · exact a3.at fun o e => oth _ o (Ne.symm O.s2) e
    · exact a4.at fun o e => oth _ o (Ne.symm O.sl1) e
    · exact a5.at fun o e => oth _ o (Ne.symm O.sl2) e
    · obtain ⟨T, f, oT, z1, z2, z3, z4, z5, z6⟩ := a6
      exact ⟨T, f, oT, oth _ _ (Ne.symm O.sz) z1, oth _ _ z6 z2, z3, z4, z5, z6⟩
    · rw [← refsA_push]
      exact ⟨_, hS2⟩
    · exact (hk.trans a10).trans fun b o _ _ _ _ c5 e => oth b o c5 e
/-- list(z) of a zip that has not begun -/
theorem call_list_zip {n : Nat} {Q : Value → Shared → Prop} (hh : A.handled = none) (D : ZipApart z TI TO i1 i2 l1 l2) (hn : n ≤ sizeLine) (hx : xs.size = n) (hy : ys.size = n)
    (hz : IsZip s.heap z TI TO .none) (hTI : IsPair s.heap TI (.ref i1) (.ref i2)) (hTO : ∃ a b, IsPair s.heap TO a b) (h1 : s.heap.IsListIter i1 l1 0) (h2 : s.heap.IsListIter i2 l2 0) (hl1 : s.heap.IsList l1 xs) (hl2 : s.heap.IsList l2 ys)
    (hQ : ∀ h', (∀ b o, b ≠ z → b ≠ TO → b ≠ i1 → b ≠ i2 → s.heap.get? b = some o → h'.get? b = some o) → (∃ c, h'.get? s.heap.objs.size = some { cls := .type "list", dict := none, data := .seq (refsA (s.heap.objs.size + 1) n) c, slots := #[] }) →
      (∀ j x y, xs[j]? = some x → ys[j]? = some y → IsPair h' (s.heap.objs.size + 1 + j) x y) → Q (.ref s.heap.objs.size) { s with heap := h' }) :
    wpAny (model prog w) A (call (.type "list") [.ref z]) Q E s := by
  have lt : ∀ {c o}, s.heap.get? c = some o → c < s.heap.objs.size := fun e => Heap.lt_size e
  have ltz := lt hz
  have ltTI := lt hTI
  obtain ⟨a0, b0, hTO⟩ := hTO
  have ltTO := lt hTO
  have lt1 : i1 < s.heap.objs.size := let ⟨_, e, _⟩ := h1; lt e
  have lt2 : i2 < s.heap.objs.size := let ⟨_, e, _⟩ := h2; lt e
  have ltl1 : l1 < s.heap.objs.size := let ⟨_, e, _⟩ := hl1; lt e
  have ltl2 : l2 < s.heap.objs.size := let ⟨_, e, _⟩ := hl2; lt e
  have O : ZOff z TI TO i1 i2 l1 l2 s.heap.objs.size (s.heap.objs.size + 1) := ⟨Nat.ne_of_gt ltz, Nat.ne_of_gt ltTI, Nat.ne_of_gt ltTO, Nat.ne_of_gt lt1, Nat.ne_of_gt lt2, Nat.ne_of_gt ltl1, Nat.ne_of_gt ltl2,
    Nat.lt_succ_of_lt ltz, Nat.lt_succ_of_lt ltTO, Nat.lt_succ_of_lt lt1, Nat.lt_succ_of_lt lt2, Nat.lt_succ_self _⟩
  refine callType_codes (Q₁ := fun obj s₁ => obj = .ref s.heap.objs.size ∧ s₁ = { s with heap := s.heap.push { cls := .type "list", data := .seq #[] } }) F.called_list (F.typeCall_list_1 _) F.entry_list_init
    (code_list_new _ ⟨rfl, rfl⟩) fun obj s₁ h₁ => ?_
  obtain ⟨rfl, rfl⟩ := h₁
  have hS : (s.heap.push { cls := .type "list", data := .seq #[] }).get? s.heap.objs.size = some { cls := .type "list", data := .seq #[] } := Heap.get?_push_size _ rfl
  refine ⟨⟨_, hS, rfl⟩, F.args_list_init_2 _ _, ?_⟩
  show wpAny _ A.in1.in1 (do let old ← Builtin.List.listItems (.ref s.heap.objs.size); Builtin.List.listUpdate (.ref s.heap.objs.size) (fun _ => #[]); letGo old.toList.reverse; Builtin.List.listExtendWith (.ref s.heap.objs.size) (.ref z) .none) _ _ _
  refine wpAny_bind ?_
  unfold Builtin.List.listItems
  refine wpAny_bind (wpAny_seqItems hS rfl (wpAny_pure ?_))
  show wpAny _ A.in1.in1 (updateSeq s.heap.objs.size (fun _ => #[]) >>= fun _ => letGo (#[] : Array Value).toList.reverse >>= fun _ => Builtin.List.listExtendWith (.ref s.heap.objs.size) (.ref z) .none) _ _ _
  refine wpAny_bind (wpAny_updateSeq hS rfl ?_)
  have hS2 := Heap.get?_update_self (Obj.mapSeq (fun _ => (#[] : Array Value))) hS rfl
  refine wpAny_bind (wpAny_letGo ?_)
  unfold Builtin.List.listExtendWith
  have up : ∀ (h : Heap) (f : Obj → Obj), (∀ b o, s.heap.get? b = some o → h.get? b = some o) → ∀ b o, s.heap.get? b = some o → (h.update s.heap.objs.size f).get? b = some o := fun h f q b o e =>
    (Heap.get?_update_other _ _ (Ne.symm (Nat.ne_of_lt (Heap.lt_size e)))).trans (q b o e)
  have k1 : ∀ b o, s.heap.get? b = some o → (s.heap.push { cls := .type "list", data := .seq #[] }).get? b = some o := fun b o e => Heap.get?_push_of_some _ e
  have k2 := up _ (Obj.mapSeq (fun _ => (#[] : Array Value))) k1
  have ty : ∀ {h : Heap} {s' : Shared}, s'.heap = h → (∀ b o, s.heap.get? b = some o → h.get? b = some o) → s'.TypeIs (.ref z) "zip" := fun {h s'} e q => ⟨_, by rw [e]; exact q _ _ hz, rfl⟩
  refine wpAny_bind (wpAny_typeOf (ty rfl k2) ?_)
  have q1 : Builtin.List.listSameRef (.ref s.heap.objs.size) (.ref z) = false := by simp [Builtin.List.listSameRef, O.sz]
  have q2 : (Value.type "zip" == Value.type "list") = false := by decide
  have q3 : (Value.type "zip" == Value.type "tuple") = false := by decide
  simp only [q1, q2, q3, Bool.or_false, Bool.false_eq_true, if_false]
  refine wpAny_bind (wpAny_pyIter_zip (f0 := .none) (k2 _ _ hz) ?_)
  refine wpAny_bind (wpAny_holding ?_)
  unfold Builtin.List.listLengthHint
  refine wpAny_bind (wpAny_specialOf (ty rfl k2) zip_no_len ?_)
  show wpAny _ A.in1.in1 (specialOf (Value.ref z) (Str.ofString "__length_hint__") >>= _) _ _ _
  refine wpAny_bind (wpAny_specialOf (ty rfl k2) zip_no_hint ?_)
  refine wpAny_pure ?_
  show wpAny _ A.in1.in1 (rule "list.extend.makes-room" >>= fun _ => Builtin.List.listTouch (.ref s.heap.objs.size) >>= fun _ =>
    again (.builtin "list.extend.loop" ⟨[.ref s.heap.objs.size, .ref z, .none], []⟩)) _ _ _
  refine wpAny_bind (wpAny_rule ?_)
  refine wpAny_bind ?_
  show wpAny _ A.in1.in1 (updateSeq s.heap.objs.size (·.push .none) >>= fun _ => updateSeq s.heap.objs.size (·.pop)) _ _ _
  refine wpAny_bind (wpAny_updateSeq hS2 rfl ?_)
  have hS3 := Heap.get?_update_self (Obj.mapSeq (·.push Value.none)) hS2 rfl
  refine wpAny_updateSeq (hz := by seq_fits) hS3 rfl ?_
  have hS4 := Heap.get?_update_self (Obj.mapSeq (·.pop)) hS3 rfl
  have k4 := up _ (Obj.mapSeq (·.pop)) (up _ (Obj.mapSeq (·.push Value.none)) k2)
  refine wpAny_pure ⟨plainId_quiet F.plain_extend_loop _, ?_⟩
  refine zip_drain (A := A.in1) (s := s) (n := n) hh D O hn hx hy .none s.heap (fun h' kk hl hp => ⟨rfl, ?_⟩) n 0 _ (by omega) ⟨k4 _ _ hTI, h1.at fun o e => k4 _ o e, h2.at fun o e => k4 _ o e, hl1.at fun o e => k4 _ o e, hl2.at fun o e => k4 _ o e,
    .inl ⟨k4 _ _ hz, a0, b0, k4 _ _ hTO⟩, by simp [Heap.size_after_update, Heap.size_push], fun j x y hj => by omega, ⟨_, hS4⟩⟩ fun b o _ _ _ _ _ e => k4 b o e
  exact hQ h' (fun b o c1 c2 c3 c4 e => kk b o c1 c2 c3 c4 (Nat.ne_of_lt (Heap.lt_size e)) e) hl hp
end
end PySem
namespace DV
open PySem L2 PyProof.Rows
section
variable {X : Cx} {pins : List (Addr × Obj)} {σ : L2.St} {H : Hp} {s : Shared}
/-- several new objects are laid at once -/
theorem inv_lay {H' : Hp} {h' : Heap} {t' : Nat} (I : Inv X pins σ H s) (k : ∀ b o, s.heap.get? b = some o → h'.get? b = some o) (old : ∀ b, b < s.heap.objs.size → H' b = H b)
    (new : ∀ b u, s.heap.objs.size ≤ b → H' b = some u → ObjOk X.prog X.w H' h' b u) : Inv X pins σ H' { s with heap := h', toks := t' } := by
  have ext : ∀ b u, H b = some u → H' b = some u := fun b u e => by
    by_cases hb : b < s.heap.objs.size
    · rw [old b hb]; exact e
    · rw [I.hok.fresh (Nat.le_of_not_lt hb)] at e; cases e
  refine I.un (t' := t') ⟨fun b o e n _ _ => k b o e, fun b o e n _ _ => ⟨o.slots, k b o e⟩, fun b o e n _ => (old b (Heap.lt_size e)).trans n, fun b o e _ => ⟨o, k b o e⟩, fun b xs e => ext _ _ e, fun b o u e => ext _ _ e, fun b ps e => ⟨#[], by rw [ext _ _ e]; simp⟩⟩ fun b u e => ?_
  by_cases hb : b < s.heap.objs.size
  · rw [old b hb] at e
    exact (I.hok b u e).stay (fun c v _ q => k c v q) (fun c q => ext _ _ q) fun c xs q => ext _ _ q
  · exact new b u (Nat.le_of_not_lt hb) e
end
theorem ne_lt_add {b n k : Nat} (h : b < n) : b ≠ n + k := by omega
theorem no_in {b n k m : Nat} (h : b < n) : ¬ (n + k ≤ b ∧ b < m) := by omega
theorem at_in {B b n : Nat} (h : B ≤ b ∧ b < B + n) : ∃ j, b = B + j ∧ b - B = j := ⟨b - B, by omega, rfl⟩
/-- the frame's map with the pairs laid from B on -/
def addT (H : Hp) (B : Nat) (xs ys : List V) : Hp := fun b => if B ≤ b ∧ b < B + xs.length then (match xs[b - B]?, ys[b - B]? with
  | some x, some y => some (.tup [x, y])
  | _, _ => none) else H b
theorem addT_old {H : Hp} {B : Nat} {xs ys : List V} {b : Nat} (h : ¬ (B ≤ b ∧ b < B + xs.length)) : addT H B xs ys b = H b := by unfold addT; rw [if_neg h]
theorem addT_at {H : Hp} {B : Nat} {xs ys : List V} {j : Nat} {x y : V} (hx : xs[j]? = some x) (hy : ys[j]? = some y) : addT H B xs ys (B + j) = some (.tup [x, y]) := by
  have hj := (List.getElem?_eq_some_iff.mp hx).1
  have e : B + j - B = j := by omega
  have c : B ≤ B + j ∧ B + j < B + xs.length := ⟨by omega, by omega⟩
  unfold addT
  rw [if_pos c, e, hx, hy]
theorem addT_inv {H : Hp} {B : Nat} {xs ys : List V} {b : Nat} {u : HO} (h : B ≤ b ∧ b < B + xs.length) (e : addT H B xs ys b = some u) : ∃ j x y, b = B + j ∧ xs[j]? = some x ∧ ys[j]? = some y ∧ u = .tup [x, y] := by
  unfold addT at e
  rw [if_pos h] at e
  split at e
  · rename_i x y h1 h2
    obtain ⟨j, hj, ej⟩ := at_in h
    rw [ej] at h1 h2
    exact ⟨j, x, y, hj, h1, h2, by cases e; rfl⟩
  · cases e
def refsV (B n : Nat) : List V := (List.range n).map fun j => V.ref (B + j)
theorem vals_refsV (B n : Nat) : Vals (refsV B n) (refsA B n).toList := by
  have e : (refsA B n).toList = (List.range n).map fun j => Value.ref (B + j) := by simp [refsA]
  rw [e]
  unfold refsV
  generalize List.range n = l
  induction l with
  | nil => exact .nil
  | cons i r ih => exact .cons rfl ih
/-- list(zip(a, b)): the map behind it -/
def tListZip (K : PySem.W.Frag) (ta : TA) : TE := fun σ H Q => ta σ H fun vs H1 => ∃ a b xs ys, vs = [.ref a, .ref b] ∧ SqL K H1 a xs ∧ SqL K H1 b ys ∧ xs.length = ys.length ∧
  ∀ L B, H1 L = none → (∀ j, H1 (B + j) = none) → L < B → Q (.ref L) (upd (addT H1 B xs ys) L (.lst (refsV B xs.length)))
section
variable {X : Cx} {W : WX}
theorem pe_listZip {e e2 : Expr} {ta : TA} {p pos p2 pos2 : Pos} (hc : X.calm = true) (hgz : Gl X "zip") (hmz : X.mg "zip" = none) (hgl : Gl X "list") (hml : X.mg "list" = none) (ha : PA X [e, e2] ta)
    (hs : starEach [e, e2] X.env = (false, eval e X.env) :: starEach [e2] X.env := by rfl) (hpl : (backTo pos2 (starEach [e2] X.env)).any (·.1) = false := by rfl)
    (na : starEach [Expr.Call (.Name "zip" p2) [e, e2] [] pos2] X.env = (false, eval (.Call (.Name "zip" p2) [e, e2] [] pos2) X.env) :: starEach [] X.env := by rfl) :
    PE X (.Call (.Name "list" p) [.Call (.Name "zip" p2) [e, e2] [] pos2] [] pos) (tListZip X.K ta) := by
  refine ⟨fun pins s σ H Q I h => ?_⟩
  refine Call_ (ld_blt I hgl hml boot_list (PyProof.Rows.callWith_type1 (args_cons ?_ na) na))
  refine Call_ (ld_blt I hgz hmz PyProof.Rows.boot_zip (PyProof.Rows.callWith_type1 (thn (ha.run pos2 pins s σ H _ I h) fun us s1 ⟨vs, H1, I1, r1, q1⟩ => ?_) hs hpl))
  obtain ⟨a, b, xs, ys, ex, hqx, hqy, hl, q⟩ := q1
  subst ex
  cases r1 with
  | cons r rr =>
    cases rr with
    | cons r' rr =>
      cases rr
      cases r
      cases r'
      obtain ⟨its, rv, p1, hz1⟩ := I1.list hqx
      obtain ⟨its2, rv2, p2, _⟩ := I1.list hqy
      have l1 := rv.length
      have l2 := rv2.length
      refine call_zip_2 p1.isList p2.isList fun h' hz hTI hTO h1 h2 hsz hk => ?_
      have I2 : Inv X pins σ H1 { s1 with heap := h' } := I1.kept (t' := s1.toks) hk
      refine args_nil ?_
      refine call_list_zip (s := { s1 with heap := h' }) (n := xs.length) (I2.ok.hd hc) (PySem.W.ktu_apart s1.heap.objs.size a b p1.lt p2.lt) hz1 (by simp [l1]) (by rw [hl]; simp [l2]) hz hTI ⟨_, _, hTO⟩ h1 h2 (p1.isList.at fun o e => hk _ o e) (p2.isList.at fun o e => hk _ o e) fun h'' kk hL hp => ?_
      have szE : ({ s1 with heap := h' } : Shared).heap.objs.size = s1.heap.objs.size + 5 := hsz
      rw [szE] at hL hp ⊢
      have big : ∀ j, s1.heap.objs.size ≤ s1.heap.objs.size + 5 + 1 + j := fun j => by omega
      have kk2 : ∀ b o, s1.heap.get? b = some o → h''.get? b = some o := fun b o e => by
        have lt := Heap.lt_size e
        exact kk b o (ne_lt_add lt) (ne_lt_add lt) (ne_lt_add (k := 0) lt) (ne_lt_add lt) (hk b o e)
      have I3 : Inv X pins σ (upd (addT H1 (s1.heap.objs.size + 5 + 1) xs ys) (s1.heap.objs.size + 5) (.lst (refsV (s1.heap.objs.size + 5 + 1) xs.length))) { s1 with heap := h'', toks := s1.toks } := by
        refine inv_lay (s := s1) (h' := h'') (t' := s1.toks) I1 kk2 (fun b hb => ?_) (fun b u hb e => ?_)
        · rw [upd_ne (ne_lt_add hb), addT_old (no_in (k := 6) hb)]
        · by_cases hbL : b = s1.heap.objs.size + 5
          · subst hbL
            rw [upd_same] at e
            cases e
            obtain ⟨c, hL⟩ := hL
            exact ⟨by simp [refsV]; omega, (refsA (s1.heap.objs.size + 5 + 1) xs.length).toList, c, vals_refsV _ _, by rw [Array.toArray_toList]; exact hL⟩
          · rw [upd_ne hbL] at e
            by_cases hin : s1.heap.objs.size + 5 + 1 ≤ b ∧ b < s1.heap.objs.size + 5 + 1 + xs.length
            · obtain ⟨j, x, y, rfl, hx, hy, rfl⟩ := addT_inv hin e
              obtain ⟨u, hu, ru⟩ := rv.get hx
              obtain ⟨v, hv, rv'⟩ := rv2.get hy
              have pr := hp j u v (by simpa using hu) (by simpa using hv)
              exact ⟨by rw [sizeLine_eq]; simp, [u, v], .cons ru (.cons rv' .nil), ⟨_, pr, rfl, _, rfl⟩⟩
            · rw [addT_old hin, I1.hok.fresh hb] at e
              cases e
      refine ⟨.ref (s1.heap.objs.size + 5), _, I3, rfl, q (s1.heap.objs.size + 5) (s1.heap.objs.size + 5 + 1) (I1.hok.fresh (Nat.le_add_right _ _)) (fun j => I1.hok.fresh (big j)) (Nat.lt_succ_self _)⟩
end
/-! ### the frame's map with more in it -/
def ExtH (H H' : Hp) : Prop := ∀ b u, H b = some u → H' b = some u
section
variable {K : PySem.W.Frag} {φ φ' : List Addr} {H H' : Hp} {s : Sto}
theorem fuX (e : ExtH H H') : Fu K φ φ H H' := ⟨⟨[], List.append_nil _⟩, fun a xs q => by
    rcases q with (q | ⟨ob, q⟩) | q
    · exact .inl (.inl (e _ _ q))
    · exact .inl (.inr ⟨ob, e _ _ q⟩)
    · exact .inr q, fun a xs q => by
    rcases q with ⟨ob, q⟩ | q
    · exact .inl ⟨ob, e _ _ q⟩
    · exact .inr q, fun a f q => e _ _ q, fun a f q => e _ _ q⟩
theorem Ob.ext {a : Addr} {o : DO} (x : ExtH H H') (h : Ob K φ H a o) : Ob K φ H' a o := by
  have f := fuX (K := K) (φ := φ) x
  cases o with
  | lst xs => obtain ⟨vs, e, r⟩ := h; exact ⟨vs, x _ _ e, r.fu f⟩
  | ins C fs => obtain ⟨dx, vs, e, r⟩ := h; exact ⟨dx, vs, x _ _ e, r.fu f⟩
  | dK kvs => obtain ⟨vs, e, r⟩ := h; exact ⟨vs, x _ _ e, r.fu f⟩
  | dT kvs => obtain ⟨vs, e, r⟩ := h; exact ⟨vs, x _ _ e, r.fu f⟩
  | tab P q =>
    obtain ⟨rfl, ps, e, ok, named⟩ := h
    exact ⟨rfl, ps, x _ _ e, ok, fun pos cv among => by
      obtain ⟨c, z1, z2⟩ := named pos cv among
      exact ⟨c, z1, x _ _ z2⟩⟩
theorem soX (x : ExtH H H') (h : So K φ H s) : So K φ H' s := ⟨h.len, h.nd, fun n o e => by
  obtain ⟨a, ha, q⟩ := h.ob n o e
  exact ⟨a, ha, q.ext x⟩⟩
end
theorem add_swap (B j : Nat) : B + (j + 1) = B + 1 + j := by omega
/-- the pairs of two lists -/
def zipD (xs ys : List D) : List D := (xs.zip ys).map fun p => .tup [p.1, p.2]
def dZipL (da : DA) : DX := fun Δ => mbind (da Δ) fun xs s => match xs with
  | [.obj n, .obj m] => match lstAt s n, lstAt s m with
    | some xs, some ys => if xs.length = ys.length then some (.ok (.obj s.length), s ++ [.lst (zipD xs ys)]) else none
    | _, _ => none
  | _ => none
theorem addT_ext {H : Hp} {B : Nat} {xs ys : List V} (h : ∀ j, H (B + j) = none) : ExtH H (addT H B xs ys) := fun b u e => by
  by_cases hb : B ≤ b ∧ b < B + xs.length
  · obtain ⟨j, rfl, _⟩ := at_in hb
    rw [h j] at e
    cases e
  · rw [addT_old hb]; exact e
theorem zip_dts {K : PySem.W.Frag} {φ : List Addr} {H : Hp} : ∀ (xs ys : List D) (vs us : List V) (B : Nat), Dts K φ H vs xs → Dts K φ H us ys → (∀ (j : Nat) (x y : V), vs[j]? = some x → us[j]? = some y → SqT K H (B + j) [x, y]) → vs.length = us.length → Dts K φ H (refsV B vs.length) (zipD xs ys)
  | [], _, [], _, B, .nil, _, _, _ => .nil
  | x :: xs, [], v :: vs, [], B, _, _, _, hl => by simp at hl
  | x :: xs, y :: ys, v :: vs, u :: us, B, .cons h1 r1, .cons h2 r2, hp, hl => by
    have e : refsV B (v :: vs).length = .ref (B + 0) :: refsV (B + 1) vs.length := by
      unfold refsV
      rw [List.length_cons, List.range_succ_eq_map, List.map_cons, List.map_map]
      congr 1
      apply List.map_congr_left
      intro j _
      exact congrArg V.ref (add_swap B j)
    rw [e]
    refine .cons (.tup (hp 0 v u rfl rfl) (.cons h1 (.cons h2 .nil))) (zip_dts xs ys vs us (B + 1) r1 r2 (fun j a b ha hb => ?_) (by simpa using hl))
    have q := hp (j + 1) a b (by simpa using ha) (by simpa using hb)
    rw [add_swap B j] at q
    exact q
section
variable {X : Cx} {W : WX}
theorem de_listZip {e e2 : Expr} {da : DA} {p pos p2 pos2 : Pos} (hc : X.calm = true) (hgz : Gl X "zip") (hmz : X.mg "zip" = none) (hgl : Gl X "list") (hml : X.mg "list" = none) (ha : DAs X W [e, e2] da)
    (hs : starEach [e, e2] X.env = (false, eval e X.env) :: starEach [e2] X.env := by rfl) (hpl : (backTo pos2 (starEach [e2] X.env)).any (·.1) = false := by rfl)
    (na : starEach [Expr.Call (.Name "zip" p2) [e, e2] [] pos2] X.env = (false, eval (.Call (.Name "zip" p2) [e, e2] [] pos2) X.env) :: starEach [] X.env := by rfl) :
    DE X W (.Call (.Name "list" p) [.Call (.Name "zip" p2) [e, e2] [] pos2] [] pos) (dZipL da) :=
  pe_imp (pe_listZip hc hgz hmz hgl hml ha hs hpl na) fun σ H Q ⟨Δ, φ, s, hσ, hs, h⟩ => upA_bind hσ hs h fun φ1 vs H1 xs s1 f1 hσ1 hs1 rx h1 => by
    split at h1
    · rename_i n m
      cases rx with
      | cons r1 rx =>
        cases rx with
        | cons r2 rx =>
          cases rx
          cases r1 with
          | obj ha =>
            cases r2 with
            | obj hb =>
              rename_i a b
              split at h1
              · rename_i xs ys e1 e2
                split at h1
                · rename_i hl
                  obtain ⟨vs, k1, d1⟩ := hs1.lst (lstAt_eq e1) ha
                  obtain ⟨us, k2, d2⟩ := hs1.lst (lstAt_eq e2) hb
                  refine ⟨a, b, vs, us, rfl, SqL.of k1, SqL.of k2, by rw [d1.length, d2.length]; exact hl, fun L B hL hB hLB => ?_⟩
                  have x1 := addT_ext (xs := vs) (ys := us) hB
                  have f2 : Fu X.K φ1 φ1 H1 (addT H1 B vs us) := fuX x1
                  have hL2 : addT H1 B vs us L = none := by
                    rw [addT_old (fun z => absurd z.1 (Nat.not_le_of_lt hLB))]
                    exact hL
                  have dz : Dts X.K φ1 (addT H1 B vs us) (refsV B vs.length) (zipD xs ys) := zip_dts xs ys vs us B (d1.fu f2) (d2.fu f2) (fun j x y hx hy => SqT.of (addT_at hx hy)) (by rw [d1.length, d2.length]; exact hl)
                  have so2 := soX x1 hs1
                  exact h1 (φ1 ++ [L]) _ _ (f2.trans (fu_newO hL2)) (Dts.newO so2 hL2 dz) (obj_new so2)
                · exact h1.elim
              · exact h1.elim
    · exact h1.elim
end
end DV

set_option maxHeartbeats 2000000
namespace DV
open PySem L2 PyProof.Rows
/-! ### != of two lists [t, x] with the same x -/
def rNeI (K : PySem.W.Frag) : R2 := fun x y H Q => ∃ (a b k : Addr) (t : Str), x = .ref a ∧ y = .ref b ∧ SqL K H a [.str t, .ref k] ∧ SqL K H b [.str t, .ref k] ∧ Q (.bl false) H
section
variable {X : Cx}
theorem op_neI (hu : X.A.units + 64 < cLine) : OpR X (compareOp .NotEq) (rNeI X.K) := by
  intro pins s σ H x y v u Q I rx ry h
  obtain ⟨a, b, k, t, rfl, rfl, h1, h2, q⟩ := h
  cases rx
  cases ry
  obtain ⟨its, rv, p1, _⟩ := I.list h1
  obtain ⟨its2, rv2, p2, _⟩ := I.list h2
  cases rv with
  | cons r1 rv =>
    cases rv with
    | cons r2 rv =>
      cases rv
      cases rv2 with
      | cons w1 rv2 =>
        cases rv2 with
        | cons w2 rv2 =>
          cases rv2
          obtain ⟨t1, rfl⟩ := r1
          obtain ⟨t2, rfl⟩ := w1
          cases r2
          cases w2
          have lt : X.A.units < cLine := by omega
          have e := SeqAt.RcNeAt.lists (A := X.A) (s := s) (e := fun _ => true) p1.isList p2.isList rfl lt (fun j j1 j2 => by
            have hj : j < 2 := j1
            match j, hj with
            | 0, _ =>
              have := SeqAt.EqAt.str_str (A := X.A.in1) (s := s) t t1 t t2
              rw [beq_self_eq_true] at this
              exact this
            | 1, _ => exact SeqAt.EqAt.same _)
          refine e X.prog X.w X.xe _ ?_
          exact ⟨.bl false, H, I, rfl, q⟩
end
def fNeI : Op2 := fun x y s => match x, y with
  | .obj n, .obj m => match lstAt s n, lstAt s m with
    | some [.str t, .obj k], some [.str t', .obj k'] => if t = t' ∧ k = k' then some (.bl false, s) else none
    | _, _ => none
  | _, _ => none
def fNeO : Op2 := fun x y s => match fNe x y s with
  | some r => some r
  | none => fNeI x y s
section
variable {X : Cx}
theorem dop_neI (hu : X.A.units + 64 < cLine) : DOp X (compareOp .NotEq) fNeI := ⟨_, op_neI hu, fun φ H s x y v u Q so rx ry p => by
  unfold fNeI at p
  split at p
  · rename_i n m
    cases rx with
    | obj ha =>
      cases ry with
      | obj hb =>
        rename_i a b
        split at p
        · rename_i t k t' k' e1 e2
          split at p
          · rename_i c
            obtain ⟨rfl, rfl⟩ := c
            obtain ⟨vs, k1, d1⟩ := so.lst (lstAt_eq e1) ha
            obtain ⟨us, k2, d2⟩ := so.lst (lstAt_eq e2) hb
            cases d1 with
            | cons r1 d1 =>
              cases d1 with
              | cons r2 d1 =>
                cases d1
                cases d2 with
                | cons w1 d2 =>
                  cases d2 with
                  | cons w2 d2 =>
                    cases d2
                    cases r1
                    cases w1
                    cases r2 with
                    | obj g1 =>
                      cases w2 with
                      | obj g2 =>
                        rw [g1] at g2
                        cases g2
                        exact ⟨a, b, _, t, rfl, rfl, SqL.of k1, SqL.of k2, p.ok so (.bl _)⟩
          · exact p.elim
        · exact p.elim
  · exact p.elim⟩
theorem dop_neO (hu : X.A.units + 64 < cLine) : DOp X (compareOp .NotEq) fNeO := by
  obtain ⟨r1, h1, p1⟩ := dop_ne hu
  obtain ⟨r2, h2, p2⟩ := dop_neI (X := X) hu
  refine ⟨fun x y H Q => r1 x y H Q ∨ r2 x y H Q, fun pins s σ H x y v u Q I rx ry h => ?_, fun φ H s x y v u Q so rx ry p => ?_⟩
  · rcases h with h | h
    · exact h1 pins s σ H x y v u Q I rx ry h
    · exact h2 pins s σ H x y v u Q I rx ry h
  · unfold fNeO at p
    split at p
    · rename_i r e
      refine .inl (p1 φ H s x y v u Q so rx ry ?_)
      rw [e]
      exact p
    · exact .inr (p2 φ H s x y v u Q so rx ry p)
end
end DV

set_option maxHeartbeats 4000000
namespace DV
open PySem L2 PyProof.Rows PySem.NumText PySem.Calls
/-! ### int(t, 2) of any length; int of a sign; the law's head where int's limit is the built-in one -/
theorem wp_maxDigits {M : Model} {A : Around} {E : Value → Shared → Prop} {s : Shared} {Q : Nat → Shared → Prop} (hn : s.heap.NoDigits) (h : Q 4300 s) : wpAny M A Builtin.intMaxStrDigits Q E s := by
  obtain ⟨mc, hns, hnone⟩ := hn
  unfold Builtin.intMaxStrDigits
  refine wpAny_bind (wpAny_nsGet hns ?_)
  rw [hnone]
  exact wpAny_pure h
theorem bin_readL {l : List Nat} (h : ∀ c ∈ l, Bin c) (ne : l ≠ []) (lim : Nat) : (int_private% "readNumeral") lim 2 l = (int_private% "Numeral.value") ((binNum l : Nat) : Int) := by
  have hr : ∀ c ∈ l.reverse, Bin c := fun c m => h c (List.mem_reverse.mp m)
  refine (readNumeral_eq lim 2 l).trans ?_
  rw [Hx.dropB (Bin.all h), Hx.signH (Bin.all h)]
  show judge lim false (based 2 l).1 (based 2 l).2.1 (digits? (based 2 l).1 (((based 2 l).2.2.reverse.dropWhile blank).reverse)) = _
  rw [bin_based h]
  show judge lim false 2 false (digits? 2 ((l.reverse.dropWhile blank).reverse)) = _
  rw [Hx.dropB (Bin.all hr), List.reverse_reverse, bin_digits h ne]
  show (int_private% "Numeral.value") (((l.foldl (fun q c => q.push (Hx.hv c)) (#[] : Array Nat)).foldl (fun n d => n * 2 + d) 0 : Nat) : Int) = _
  have z : (#[] : Array Nat).foldl (fun n d => n * 2 + d) 0 = 0 := by first | rfl | simp
  rw [bin_push, z]
  rfl
theorem wp_textL {M : Model} {A : Around} {E : Value → Shared → Prop} {s : Shared} {Q : Value → Shared → Prop} {v : Value} {text : List Nat} {B : Nat} {n : Int} (hd : s.heap.NoDigits)
    (hs : ¬ (text.takeWhile (· != 0)).length ≤ 640) (hr : (int_private% "readNumeral") 4300 B (text.takeWhile (· != 0)) = (int_private% "Numeral.value") n)
    (ha : ((text.takeWhile (· != 0)).length == text.length) = true) (h : Q (.int n s.toks) { s with toks := s.toks + 1 }) :
    wpAny M A ((int_private% "intFromText") v text B) Q E s := by
  obtain ⟨hp, g, d, tk, os⟩ := s
  repeat (any_goals (first
    | assumption
    | (with_reducible refine wpAny_ite_false (decide_eq_false hs) ?_)
    | (with_reducible refine wpAny_ite_true (decide_eq_true ha) ?_)
    | ((with_reducible show wpAny _ _ Builtin.intMaxStrDigits _ _ _); refine wp_maxDigits hd ?_)
    | wp_step))
  all_goals (try rw [hr])
  all_goals (try dsimp only)
  repeat (any_goals (first
    | assumption
    | (with_reducible refine wpAny_ite_true (decide_eq_true ha) ?_)
    | wp_step))
theorem bin_meetsL {x : Str} {u t : Tok} (h : ∀ c ∈ x.cps.toList, Bin c) (ne : x.cps.toList ≠ []) :
    Meets (Builtin.«int.__new__» ⟨[.type "int", .str x u, .int 2 t], []⟩) (fun _ R s => s.heap.NoDigits ∧ R (.ok (.ret (.int ((binNum x.cps.toList : Nat) : Int) s.toks))) { s with toks := s.toks + 1 }) :=
  .of_wp fun prog w A R s ⟨hd, hQ⟩ => by
    obtain ⟨hp, g, d, tk, os⟩ := s
    have q1 := F.conv_sub_int
    have q2 := F.madeHere_int
    have q3 : typeOf (.str x u) = pure (.type "str") := rfl
    obtain ⟨e1, e2⟩ := Hx.seen_hex (Bin.all h)
    have a2 : ∀ lim, (int_private% "readNumeral") lim 2 (numSeenOf x) = (int_private% "Numeral.value") ((binNum x.cps.toList : Nat) : Int) := fun lim => by rw [e2]; exact bin_readL h ne lim
    have a3 : ((numSeenOf x).length == (numTextOf x).length) = true := by rw [e1, e2]; exact beq_self_eq_true _
    by_cases hl : (numSeenOf x).length ≤ 640
    · have all := Hx.Hid.mk (And.intro hl (And.intro (a2 0) a3))
      clear a2 a3 e1 e2 hl ne h
      repeat (any_goals (first
        | assumption
        | ((with_reducible show wpAny _ _ ((int_private% "intFromText") _ _ _) _ _ _); refine Hx.wp_textB all.out.1 all.out.2.1 all.out.2.2 ?_)
        | wp_step))
      all_goals first | exact ⟨_, rfl, hQ⟩ | exact hQ | skip
    · have all := Hx.Hid.mk (And.intro hl (And.intro (a2 4300) a3))
      clear a2 a3 e1 e2 hl ne h
      repeat (any_goals (first
        | assumption
        | ((with_reducible show wpAny _ _ ((int_private% "intFromText") _ _ _) _ _ _); refine wp_textL hd all.out.1 all.out.2.1 all.out.2.2 ?_)
        | wp_step))
      all_goals first | exact ⟨_, rfl, hQ⟩ | exact hQ | skip
def rBinL : List V → Hp → VK → Prop := fun xs H Q => ∃ x : Str, xs = [.str x, .int 2] ∧ x.cps.toList ≠ [] ∧ (∀ c ∈ x.cps.toList, Bin c) ∧ Q (.int ((binNum x.cps.toList : Nat) : Int)) H
theorem bin_callL {X : Cx} (dig : X.base.NoDigits) : CallR X (.type "int") rBinL := by
  intro pins s σ H xs us Q J r ⟨x, ex, ne, hb, q⟩
  subst ex
  obtain ⟨u, v, rfl, ru, rv⟩ := vals2 r
  obtain ⟨t1, rfl⟩ := ru
  obtain ⟨t2, rfl⟩ := rv
  exact callType_new F.called_int F.newNe_int (Hx.typeCall_int_2 _ _) (Hx.newCall_int_2 _ _) (fun o => F.initArgs_range_2 o _ _) F.entry_int_new (bin_meetsL hb ne) ⟨dig.keeps J.bk, rfl, .int ((binNum x.cps.toList : Nat) : Int), H, J.tok _, ⟨_, rfl⟩, q⟩
/-- int(x, 2) of any length -/
def fIntL : OpN := fun xs s => match xs with
  | [.str x, .int 2] => if (!x.cps.toList.isEmpty && allBin x.cps.toList) = true then some (.int ((binNum x.cps.toList : Nat) : Int), s) else none
  | _ => none
theorem dc_intL {X : Cx} (dig : X.base.NoDigits) : DCall X (.type "int") fIntL := ⟨_, bin_callL dig, fun φ H s vs ds Q so rx p => by
  unfold fIntL at p
  split at p
  · rename_i x
    cases rx with
    | cons r1 r2 => cases r2 with
      | cons r2 r3 =>
        cases r3
        cases r1
        cases r2
        split at p
        · rename_i c
          simp only [Bool.and_eq_true, Bool.not_eq_true'] at c
          refine ⟨x, rfl, fun z => ?_, fun k hk => ?_, p.ok so (.int _)⟩
          · rw [z] at c
            exact absurd c.1 (by simp)
          · exact of_decide_eq_true (List.all_eq_true.mp c.2 k hk)
        · exact p.elim
  · exact p.elim⟩
/-- int(x) of a sign 0 or 1 -/
def fIntD : OpN := fun xs s => match xs with
  | [.str x] => if x = ("0" : Str) then some (.int 0, s) else if x = ("1" : Str) then some (.int 1, s) else none
  | _ => none
theorem dc_intD {X : Cx} : DCall X (.type "int") fIntD := ⟨_, call_int_str, fun φ H s vs ds Q so rx p => by
  unfold fIntD at p
  split at p
  · rename_i x
    obtain ⟨v, rfl, r⟩ := dts1 rx
    cases r
    split at p
    · rename_i c
      subst c
      exact ⟨_, 0, rfl, by decide +kernel, by decide, p.ok so (.int _)⟩
    · split at p
      · rename_i c
        subst c
        exact ⟨_, 1, rfl, by decide +kernel, by decide, p.ok so (.int _)⟩
      · exact p.elim
  · exact p.elim⟩
theorem law_topD {P : Program} {w : World} {K : PySem.W.Frag} {mg mb : Str → Option Value} {k : Nat} {fa a : Addr} {fd : FuncData} {x : Str} {fM : FnD} {t : Shared} {vs : List Value} {ns : List Int} (inK : K.In t.heap) (nsM : t.heap.Ns mainGlobals mg) (nsB : t.heap.Ns builtinsNs mb)
    (boot : ∀ y : Str, y ≠ "__name__" → mb y = bootBuiltins y) (lim : t.heap.NoLimit) (dig : t.heap.NoDigits) (noG : t.gens = #[]) (script : t.heap.get? a = some { cls := .type "list", data := .seq vs.toArray }) (hints : IntsAre vs ns) (h63 : ns.length ≤ 63) (hr : RoomG k callerA)
    (F : ∀ base : Heap, K.In base → base.Ns mainGlobals mg → base.NoDigits → FnG P w K mg base k fa fd [x] fM) (bind : ∀ (s : Shared) (u : Value), BindsTo s fd ⟨[u], []⟩ [(x, u)]) (hT : AllTrue fM) :
    codeAny (model P w) callerA (.call (.ref fa) ⟨[.ref a], []⟩) (fun r t2 => r = .ok (.ret (.bool true)) ∧ OldK t.heap t2.heap ∧ t2.os = t.os ∧ AllBare t2.gens) t := by
  have vals := vals_ints hints
  have small : ns.length ≤ sizeLine := Nat.le_of_lt (small1000 (by omega))
  -- H tracks the script at most
  have run : ∀ H : Hp, (∀ b, H b = none ∨ ∃ ob xs, H b = some (.frz ob (.lst xs))) → FzL K H a (ns.map V.int) → HOk P w H t.heap → (∀ b, H b ≠ none → b = a) → (H a ≠ none → K.lookup a = none) →
      codeAny (model P w) callerA (.call (.ref fa) ⟨[.ref a], []⟩) (fun r t2 => r = .ok (.ret (.bool true)) ∧ OldK t.heap t2.heap ∧ t2.os = t.os ∧ AllBare t2.gens) t := fun H only fz hok alone free => by
    have untracked : ∀ {b : Addr} {o : Obj}, t.heap.get? b = some o → (b = a → H a = none) → (hidT t.heap H).get? b = some o := fun {b o} e n => hidT_get e (by
      cases q : H b with
      | none => rfl
      | some u =>
        have z := alone b (by rw [q]; simp)
        rw [z] at q
        rw [n z] at q
        cases q)
    have dicts : ∀ {b : Addr} {m : Str → Option Value}, t.heap.Ns b m → (hidT t.heap H).Ns b m := fun {b m} ⟨o, es, ep, e, d, r⟩ => ⟨o, es, ep, untracked e (fun z => by
      subst z
      rw [script] at e
      cases e
      cases (show Data.seq vs.toArray _ = Data.dict es ep from d)), d, r⟩
    have inB : K.In (hidT t.heap H) := fun b o e => untracked (inK b o e) (fun z => by
      subst z
      cases q : H b with
      | none => rfl
      | some u => rw [free (by rw [q]; simp)] at e; cases e)
    obtain ⟨ml, l1, l2⟩ := lim
    obtain ⟨md0, d1, d2⟩ := dig
    have digB : (hidT t.heap H).NoDigits := ⟨md0, dicts d1, d2⟩
    have md : Mod K mg (hidT t.heap H) := ⟨inB, dicts nsM, ⟨mb, dicts nsB, boot⟩, ⟨ml, dicts l1, l2⟩⟩
    have env0 : Env0 P w K mg (hidT t.heap H) callerA [] t H := ⟨rfl, md, fun b o e => of_hidT e, Nat.le_of_eq (hidT_size _ _), trivial, fun b hb => absurd hb (by simp [frs]), hok, .of_eq noG⟩
    obtain ⟨s', hs⟩ := hT ns h63
    have sp : spD K 1 fM [.ref a] H (fun v _ => v = .bl true) fun _ _ _ => False := by
      refine ⟨rfl, [.fz (ns.map .int)], [], [], .cons (.fz fz (Dts.of_ints ns)) .nil, So.none, ?_⟩
      rw [hs]
      intro φ v H' _ _ rv
      cases rv
      rfl
    refine codeAny_mono ((F _ inB (dicts nsM) digB).run callerA [] t H ⟨[.ref a], []⟩ [.ref a] [.ref a] (fun v _ => v = .bl true) (fun _ _ _ => False) hr env0 (bind t (.ref a)) (.cons rfl .nil) sp) fun r t2 h => ?_
    cases r with
    | error e => exact (no_exc h).elim
    | ok fl => cases fl with
      | next => exact h.elim
      | brk => exact h.elim
      | cont => exact h.elim
      | ret u =>
        obtain ⟨v, H', os, bare, un, hok', rv, ev⟩ := h
        have ev' : v = .bl true := ev
        subst ev'
        obtain rfl : u = Value.bool true := rv
        refine ⟨rfl, OldK.of_keep fun b o e => ?_, os, bare⟩
        rcases only b with z | ⟨ob, xs, z⟩
        · exact un.keep b o e z (fun y => absurd y (by simp [frs])) (by simp)
        · obtain ⟨e1, _⟩ := hok b _ z
          obtain ⟨e2, _⟩ := hok' b _ (un.frzs b ob _ z)
          rw [e] at e1
          cases e1
          exact e2
  cases lk : K.lookup a with
  | some o =>
    have e := inK a o lk
    rw [script] at e
    cases e
    exact run (fun _ => none) (fun _ => .inl rfl) (.inr (.inr ⟨_, vs.toArray, _, lk, rfl, rfl, rfl, by rw [List.size_toArray, hints.length]; exact small, by simpa using vals⟩)) (fun b u z => by cases (show (none : Option HO) = some u from z)) (fun b z => absurd rfl z) fun z => absurd rfl z
  | none =>
    refine run (fun b => if b = a then some (.frz { cls := .type "list", data := .seq vs.toArray } (.lst (ns.map V.int))) else none) (fun b => ?_) (.inl ⟨_, if_pos rfl⟩) (fun b u z => ?_) (fun b z => ?_) fun _ => lk
    · by_cases hb : b = a
      · exact .inr ⟨_, _, if_pos hb⟩
      · exact .inl (if_neg hb)
    · by_cases hb : b = a
      · subst hb
        cases (if_pos rfl).symm.trans z
        exact ⟨script, by rw [List.length_map]; exact small, vs, _, vals, script⟩
      · cases (if_neg hb).symm.trans z
    · by_cases hb : b = a
      · exact hb
      · exact absurd (if_neg hb) z
theorem walk_topD {l : PySem.W.OpenLaw} {k : Nat} {q : Program} {loose : List Str} {XP : (Str → Option Value) → Heap → Prop} {YP : World → Heap → Prop} {d : DefRec} {K : Params → PySem.W.Frag} {x : Str} (hn : l.most = some 63) (hdf : d.params.defaults = []) (hr : RoomG k callerA)
    (hY : ∀ (w : World) (h : Heap), YP w h → (K w.params).In h)
    (F : ∀ (w : World) (mg : Str → Option Value) (fa : Addr) (h : Heap), (K w.params).In h → h.Ns mainGlobals mg → mg d.name = some (.ref fa) →
      ∃ (fd : FuncData) (fM : FnD), AllTrue fM ∧ (∀ (s : Shared) (u : Value), BindsTo s fd ⟨[u], []⟩ [(x, u)]) ∧ ∀ base : Heap, (K w.params).In base → base.Ns mainGlobals mg → base.NoDigits → FnG l.prog w (K w.params) mg base k fa fd [x] fM) :
    PySem.W.WalkO q loose XP YP l.row.toRowW d [] (fun f vs => PySem.call f vs) := by
  refine Att.attach_call hn hdf fun w s₀ t mg mb fa o pm cd doc a vs ns G Y _ _ _ hmg hobj hints hlen noG => ?_
  have inK := hY w _ Y
  obtain ⟨fd, fM, hT, hbd, hF⟩ := F w mg fa _ inK G.T.g hmg
  exact law_topD inK G.T.g G.T.b G.T.builtins G.T.nolimit G.T.nodigits noG hobj hints hlen hr hF hbd hT
end DV

set_option maxHeartbeats 2000000
namespace DV
open PySem L2 PyProof.Rows
/-! ### try: body, except C as n: m = None if n.f == k else e -/
section
variable {X : Cx} {n f : Str} {i : Nat} {c e a : Addr} {oe : Obj} {p pos : Pos}
/-- n.f within the clause -/
theorem pe_fldP (T : XfF X.K c f) (hz : Zc (.ref c) (some a) oe) (hd : ∃ vs, oe.data = .fields vs) (hmem : (e, oe) ∈ X.pn) (hN : X.N[i]? = some n) (hv : Vis X.env.scope n) (hdb : (n == ("__debug__" : Str)) = false := by decide) (hcd : (n == ("__classdict__" : Str)) = false := by decide)
    (hb : attributeBase (.Name n p) f X.env (eval (.Name n p) X.env) = eval (.Name n p) X.env := by rfl) :
    PE X (.Attribute (.Name n p) f pos) (fun σ H Q => σ[i]? = some (some (.ref e)) ∧ ∃ (vs : List (Str × V)) (v : V), H a = some (.xd vs) ∧ vs.lookup f = some v ∧ Q v H) := by
  constructor
  intro pins s σ H Q I h
  obtain ⟨h0, vs, v, h1, hl, q⟩ := h
  have rv := (pe_var (X := X) (pos := p) hN hv hdb hcd).run pins s σ H (fun x H1 => x = .ref e ∧ H1 = H) I ⟨.ref e, h0, rfl, rfl⟩
  refine attr_of hb (thn rv ?_)
  intro u s1 told
  obtain ⟨x, H1, I1, rx, ex, eH⟩ := told
  subst ex eH
  obtain rfl : u = Value.ref e := rx
  have pe := I1.pin (e, oe) (List.mem_append_left _ hmem)
  obtain ⟨vd, hdat⟩ := hd
  obtain ⟨mA, hns, hr⟩ := (show ObjOk X.prog X.w H1 s1.heap a (.xd vs) from I1.hok a _ h1)
  obtain ⟨od, ho, look⟩ := lookIn_ns hns
  obtain ⟨w, hw, rw'⟩ := RelO.some_of (v := v) (o := mA f) (by rw [← hl]; exact hr f)
  have J : PySem.W.InstAt s1.heap e oe c (some od) := by
    refine ⟨pe.1, hz.1, ?_, ?_⟩
    · unfold PySem.W.notCls
      rw [hdat]
    · rw [hz.2]
      exact ho
  have own := PySem.W.findObj_own (K := X.K) (od := od) T.xf.hdC T.no rfl (by rw [look, hw])
  exact PySem.HandSPX.exc_get I1.kIn J T.xf.ga T.xf.gg T.xf.exC own (handed_of rw') ⟨v, H1, I1.tok _, rw', q⟩
end
def dTryN (L : List Addr) (f : Str) (k : Int) (i j : Nat) (db : DS) : DS := fun Δ s => match db Δ s with
  | some (.ex x Δ1, s1) => if x.cls ∈ L ∧ i < Δ1.length ∧ j < Δ1.length ∧ (x.fs.lookup f).any (fun d => match d with | .int k' => decide (k' = k) | _ => false) = true then some (.nx ((Δ1.set j (some .non)).set i none), s1) else none
  | r => r
theorem prs_look {R : V → D → Prop} {f : Str} {d : D} : ∀ {vs : List (Str × V)} {fs : List (Str × D)}, Prs R vs fs → fs.lookup f = some d → ∃ v, vs.lookup f = some v ∧ R v d
  | _, _, .nil, e => by cases e
  | _, _, .cons (k := k) (v := v) (d := d0) h r, e => by
    rw [List.lookup_cons] at e ⊢
    split at e
    · cases e
      exact ⟨v, rfl, h⟩
    · exact prs_look r e
section
variable {X : Cx} {W0 : WX} {x n m f : Str} {cv : Value} {i j : Nat} {k : Int} {body : List Stmt} {rest kc none_ : Expr} {p1 p2 p3 p4 p5 p6 p7 np pos pos' : Pos} {db : DS} {L : List Addr}
theorem ds_tryN (stk : X.stack = X.env :: X.outer) (frm : X.env.frame = some X.env.locals) (nd : X.N.Nodup) (ij : i ≠ j) (hL : ∀ c ∈ L, PySem.W.exmOne X.K (.ref c) cv = some true) (hF : ∀ c ∈ L, XfF X.K c f) (nc : Names X x cv)
    (hb : ∀ (W : WX) (pn : List (Addr × Obj)) (xe : Value → Shared → Prop), Takes (X.tr pn xe) W → PassesOwn (model X.prog X.w) X.A X.env xe → DSs (X.tr pn xe) W body db)
    (hrest : ∀ (e : Addr) (pn : List (Addr × Obj)), ∃ te, PE (X.suite e pn) rest te) (hk : ∀ (e : Addr) (pn : List (Addr × Obj)), PE (X.suite e pn) kc (tC (.int k))) (hnone : ∀ (e : Addr) (pn : List (Addr × Obj)), PE (X.suite e pn) none_ (tC .non))
    (hg : ∀ (e : Addr) (pn : List (Addr × Obj)), PG (X.suite e pn) (.Name m p1) (gName j))
    (hv : Vis X.env.scope n) (ni : X.N[i]? = some n := by rfl) (nl : X.env.kindOf n = some .local := by rfl) (hex : X.ex = [] := by rfl) (hdb : (n == ("__debug__" : Str)) = false := by decide) (hcd : (n == ("__classdict__" : Str)) = false := by decide)
    (hat : attributeBase (.Name n p2) f X.env (eval (.Name n p2) X.env) = eval (.Name n p2) X.env := by rfl)
    (hs : swapsWithSole [.Name m p1] (.IfExp (.Compare (.Attribute (.Name n p2) f p4) [.Eq] [kc] p5) none_ rest p6) p3.line X.env = pure false := by rfl) (hw : swappedStores [.Name m p1] (.IfExp (.Compare (.Attribute (.Name n p2) f p4) [.Eq] [kc] p5) none_ rest p6) X.env = pure none := by rfl)
    (h1 : (assignEach [.Name m p1] X.env).map (·.2) = [assign (.Name m p1) X.env] := by rfl) (hm : behindInMarks .Eq kc = false := by first | exact nobehind _ (by decide) (by decide) | rfl) :
    DSt X W0 (.Try body [.ExceptHandler (some (.Name x np)) (some n) [.Assign [.Name m p1] (.IfExp (.Compare (.Attribute (.Name n p2) f p4) [.Eq] [kc] p5) none_ rest p6) p3] pos'] [] [] pos) (dTryN L f k i j db) := by
  let ts : Addr → Value → Option Addr → TS := fun e cls d => fun Q σ H => ∃ (c a : Addr) (vs : List (Str × V)), cls = .ref c ∧ d = some a ∧ XfF X.K c f ∧ σ[i]? = some (some (.ref e)) ∧ H a = some (.xd vs) ∧ vs.lookup f = some (.int k) ∧ Q.nx (σ.set j (some .non)) H
  refine ps_imp (ps_try_kept (tb := fun W => upS X.K W db) (ts := ts) stk frm nd ni nl nc hex hb (fun e oe cls d pn hz hd => ?_)) ?_
  · refine pss_one ⟨fun pins s σ H Q I h => ?_⟩
    obtain ⟨c, a, vs, rfl, rfl, T, h0, h2, hl, q⟩ := h
    obtain ⟨te, hr⟩ := hrest e ((e, oe) :: pn)
    have pf := pe_fldP (X := X.suite e ((e, oe) :: pn)) (p := p2) (pos := p4) T hz hd (show (e, oe) ∈ (X.suite e ((e, oe) :: pn)).pn from List.mem_cons_self) ni hv hdb hcd hat
    refine (ps_asg (pe_ifExp (pt_cmp (pc_eqI pf (hk e ((e, oe) :: pn))) hm) (hnone e ((e, oe) :: pn)) hr) (hg e ((e, oe) :: pn)) hs hw h1).run pins s σ H Q I ?_
    refine ⟨h0, vs, .int k, h2, hl, k, k, rfl, rfl, true, congrArg V.bl (decide_eq_true rfl), ?_⟩
    show (if true = true then (tC V.non σ H fun x H1 => gName j x σ H1 Q.nx) else _)
    rw [if_pos rfl]
    exact q
  · intro D σ H ⟨Δ, φ, s, hσ, hs, h⟩
    refine ⟨Δ, φ, s, hσ, hs, ?_⟩
    unfold dTryN at h
    cases r : db Δ s with
    | none => rw [r] at h; exact h.elim
    | some q =>
      obtain ⟨r1, s1⟩ := q
      rw [r] at h
      cases r1 with
      | nx Δ1 => exact h
      | rt d => exact h
      | bk Δ1 => exact h
      | ct Δ1 => exact h
      | ex xx Δ1 =>
        simp only at h
        split at h
        · rename_i hc
          obtain ⟨hc1, hi, hj, hk2⟩ := hc
          intro φ1 σ1 H1 c dd f1 so1 sg1 xr
          have hcl := xr.1
          subst hcl
          refine ⟨hL _ hc1, fun e na => ?_⟩
          obtain ⟨d0, hd0, hd1⟩ : ∃ d0, xx.fs.lookup f = some d0 ∧ d0 = .int k := by
            cases ql : xx.fs.lookup f with
            | none => rw [ql] at hk2; cases hk2
            | some d0 =>
              rw [ql] at hk2
              refine ⟨d0, rfl, ?_⟩
              cases d0 with
              | int k' => simpa using hk2
              | non => simp at hk2
              | bl b => simp at hk2
              | str y => simp at hk2
              | tup ys => simp at hk2
              | obj y => simp at hk2
              | adr y => simp at hk2
              | ty y => simp at hk2
              | fz y => simp at hk2
              | exc y z w => simp at hk2
          subst hd1
          rcases xr.2 with ⟨_, he⟩ | ⟨a, vs, rfl, h2, h3⟩
          · rw [he] at hd0
            cases hd0
          · obtain ⟨v, hv1, hv2⟩ := prs_look h3 hd0
            cases hv2
            refine ⟨xx.cls, a, vs, rfl, rfl, hF _ hc1, ?_, h2, hv1, fun na2 => ?_⟩
            · have l := sg1.len
              rw [List.getElem?_set_self (by omega)]
            · have f3 : Fu X.K φ1 φ1 H1 (upd H1 e (ExK (.ref xx.cls) (some a) e)) := fu_new na2
              refine h φ1 _ _ (f1.trans f3) (so1.new na2) ⟨?_, fun q d hq => ?_⟩
              · simp only [List.length_set]
                exact sg1.len
              · by_cases qi : q = i
                · subst qi
                  rw [List.getElem?_set_self (by simp; exact hi)] at hq
                  cases hq
                · rw [List.getElem?_set_ne (fun z => qi z.symm)] at hq ⊢
                  by_cases qj : q = j
                  · subst qj
                    rw [List.getElem?_set_self hj] at hq
                    cases hq
                    refine ⟨.non, ?_, .non⟩
                    rw [List.getElem?_set_self (by simp; have := sg1.len; omega)]
                  · rw [List.getElem?_set_ne (fun z => qj z.symm)] at hq ⊢
                    rw [List.getElem?_set_ne (fun z => qi z.symm)]
                    obtain ⟨v, w1, w2⟩ := sg1.get q d hq
                    exact ⟨v, w1, w2.fu f3⟩
        · exact h.elim
end
end DV

set_option maxHeartbeats 2000000
namespace DV
open PySem L2 PyProof.Rows
/-! ### abs of an int -/
def fAbs : OpN := fun xs s => match xs with
  | [.int i] => some (.int (if i < 0 then -i else i), s)
  | _ => none
theorem dc_abs {X : Cx} : DCall X (.builtin "abs") fAbs := ⟨_, call_abs, fun φ H s vs ds Q so rx p => by
  unfold fAbs at p
  split at p
  · obtain ⟨v, rfl, r⟩ := dts1 rx
    cases r
    exact ⟨_, rfl, p.ok so (.int _)⟩
  · exact p.elim⟩
end DV

set_option maxHeartbeats 2000000
namespace DV
open PySem L2 PyProof.Rows
/-! ### a comprehension whose step may raise -/
/-- a heap with another thing at C, if there is one -/
theorem swapAt (h : Heap) (C : Addr) (o3 : Obj) (hf : o3.isFreed = false) : ∃ h' : Heap, (∀ b, b ≠ C → h'.get? b = h.get? b) ∧ ((h.get? C = none ∧ h'.get? C = none) ∨ ((∃ o, h.get? C = some o) ∧ h'.get? C = some o3)) := by
  cases e : h.get? C with
  | none => exact ⟨h, fun _ _ => rfl, .inl ⟨rfl, e⟩⟩
  | some o => exact ⟨h.update C fun _ => o3, fun b hb => Heap.get?_update_ne h b C _ hb, .inr ⟨⟨o, rfl⟩, Heap.get?_update_self (fun _ => o3) e hf⟩⟩
theorem ff_base {B B' h : Heap} : ∀ {l : List Env}, (∀ b ∈ frs l, B'.get? b = B.get? b) → h.FunFrames B l → h.FunFrames B' l
  | [], _, _ => trivial
  | v :: l, e, q => by
    obtain ⟨hk, ⟨L, o, hf, hb, ho, hd⟩, hr⟩ := q
    refine ⟨hk, ⟨L, o, hf, ?_, ho, hd⟩, ff_base (fun b hb => e b ?_) hr⟩
    · rw [e L (List.mem_filterMap.mpr ⟨v, by simp, hf⟩)]
      exact hb
    · obtain ⟨w, hw, e⟩ := List.mem_filterMap.mp hb
      exact List.mem_filterMap.mpr ⟨w, by simp [hw], e⟩
theorem ns_ut {h h' : Heap} {C : Addr} {m : Str → Option Value} (q : h.Ns C m) (u : h.UpToSlots h') : h'.Ns C m := by
  obtain ⟨o, es, ep, ho, hd, hs, hn⟩ := q
  obtain ⟨sl, e⟩ := u C o ho fun vs z => by rw [hd] at z; cases z
  exact ⟨_, es, ep, e, hd, hs, hn⟩
theorem utr {h h' h'' : Heap} (a : h.UpToSlots h') (b : h'.UpToSlots h'') : h.UpToSlots h'' := fun c o e n => by
  obtain ⟨sl, e1⟩ := a c o e n
  obtain ⟨sl2, e2⟩ := b c _ e1 n
  exact ⟨sl2, e2⟩
theorem urfl (h : Heap) : h.UpToSlots h := fun c o e n => ⟨o.slots, by rw [e]⟩
section
variable {X : Cx} {W : WX} {pins : List (Addr × Obj)} {σ : L2.St} {H : Hp} {s : Shared} {scope : Scope} {own : List (Str × Nat)} {fp : List Addr} {C : Addr} {cl : List (Str × Addr)}
def W1 (W : WX) (C : Addr) : WX := fun c d σ H => W c d σ H ∧ H C = none
def xeB (X : Cx) (W : WX) (C : Addr) : Value → Shared → Prop := fun u s' => XE X (W1 W C) u s' ∧ ∃ m, s'.heap.Ns C m
/-- the outer's reading, out of the block's -/
theorem unblk {pins1 : List (Addr × Obj)} {σ1 : L2.St} {H1 : Hp} {s1 : Shared} {cenv : Env} (I : Inv X pins σ H s) (hfp : ∀ b ∈ fp, FpOk X pins H b) (I1 : Inv (X.blk s H scope cenv fp) pins1 σ1 H1 s1) : Inv X pins σ H1 s1 := by
  have q := I.call (ch := fp) (h' := s1.heap) (g' := s1.gens) (t' := s1.toks) (d' := s1.drawn) I1.base I1.hok I1.bare (fun b hb => by
    have f := hfp b hb
    exact ⟨f.2.2.2.1, f.2.1, f.2.2.2.2.1, f.2.2.2.2.2⟩)
  have eo : s1.os = s.os := I1.os
  rw [← eo] at q
  exact q
theorem pass_blk (I : Inv X pins σ H s) (hfp : ∀ b ∈ fp, FpOk X pins H b) (hC : C ∉ frs X.stack) (σ1 : L2.St) : PassesAt (CX X.prog X.w) ((X.blk s H scope (compEnvC scope cl C X.env) fp).wish (xeB X W C)) σ1 (fun c d H' => W c d σ H') := by
  intro pins1 H1 s1 e s' I1 hcx
  have I1' := I1.unwish
  have Io := unblk I hfp I1'
  obtain ⟨a, B, H', cls, d, rfl, fl, ho, ub, na, os, ab, w⟩ := hcx
  obtain ⟨m, hns, _⟩ := I1'.loc
  have hns' : s1.heap.Ns C m := hns
  obtain ⟨o, es, ep, hgo, hd, hs, hn⟩ := hns'
  have hf : H1 C = none := I1'.free
  have hB := ub.keep C o hgo hf hC
  refine ⟨XE.of_call (E := fun c d H' => W c d σ H' ∧ H' C = none) Io (fun _ _ _ h => h) ⟨a, B, H', cls, d, rfl, fl, ho, ub, na, os, ab, w, ub.free C o hgo hf⟩, m, o, es, ep, fl.1 C o hB, hd, hs, hn⟩
theorem look_any {B : Heap} {a : Addr} {cls : Value} {d : Option Addr} {s' : Shared} {Q : Unit → Shared → Prop} {E : Value → Shared → Prop} (allF : X.A.frames = some (X.env :: X.outer)) (frm : X.env.frame = some X.env.locals) (sky : Sky B (X.env :: X.outer) a (Zc cls d) X.env.locals s'.heap)
    (q : ∀ h', HandSPX.HeldZ B (X.env :: X.outer) a (Zc cls d) X.env.locals h' → s'.heap.UpToSlots h' → Q () { s' with heap := h' }) : wpAny (model X.prog X.w) X.A (noteFrame (.ref a) X.env) Q E s' := by
  rcases sky with ⟨st, na, ff, oe, vs, ge, z, hd, h1⟩ | fly | held
  · exact HandSPX.look_newZ Zc.steady allF ff frm ge st na hd h1 z q
  · exact HandSPX.looks_onZ Zc.steady allF frm fly q
  · exact HandSPX.againZ frm held.2.2.2 (q s'.heap held (urfl _))
theorem fails_out (tk : Takes X W) (stk : X.stack = X.env :: X.outer) (frm : X.env.frame = some X.env.locals) (I : Inv X pins σ H s) (hC : s.heap.objs.size ≤ C) (hCs : C ∉ frs X.stack) {u : Value} {s' : Shared} (x : xeB X W C u s') :
    notedBy (model X.prog X.w) X.A (compEnvC scope cl C X.env) (fun e t => CompFails (model X.prog X.w) X.A X.xe (compEnvC scope cl C X.env) e t) u s' := by
  obtain ⟨⟨a, B, sI, pins1, σ1, H1, cls, d, rfl, I1, inB, upTo, sky, na, sameOs, allB, w, hC1⟩, m, hns⟩ := x
  have allF : X.A.frames = some (X.env :: X.outer) := I.ok.frames.trans (congrArg some stk)
  rw [stk] at sky
  show wpAny _ _ (noteFrame (.ref a) X.env) _ _ _
  refine look_any allF frm sky fun h2 held up2 => ?_
  have ns2 : h2.Ns C m := ns_ut hns up2
  refine ⟨m, ns2, fun h3 m3 ns3 same => ?_⟩
  obtain ⟨o3, es3, ep3, go3, hd3, hs3, hn3⟩ := ns3
  have nf3 : o3.isFreed = false := by
    obtain ⟨c1, c2, c3, c4⟩ := o3
    have : c3 = Data.dict es3 ep3 := hd3
    subst this
    rfl
  obtain ⟨o2, es2, ep2, go2, hd2, hs2, hn2⟩ := ns2
  obtain ⟨hst, hna, hff, oe, vs, T, oT, ts, ge, hz, hde, h1v, hbT, hTe, gT, hdT, hts⟩ := held
  have aC : a ≠ C := fun z => by
    rw [z, go2] at ge
    cases ge
    rw [hd2] at hde
    cases hde
  have TC : T ≠ C := fun z => by
    rw [z, go2] at gT
    cases gT
    rw [hd2] at hdT
    cases hdT
  obtain ⟨B3, bo, bc⟩ := swapAt B C o3 nf3
  obtain ⟨hI, io, ic⟩ := swapAt sI.heap C o3 nf3
  rw [stk] at hCs
  have held3 : HandSPX.HeldZ B3 (X.env :: X.outer) a (Zc cls d) X.env.locals h3 := by
    refine ⟨fun b o e => ?_, ?_, ?_, oe, vs, T, oT, ts, ?_, hz, hde, h1v, ?_, hTe, ?_, hdT, hts⟩
    · by_cases hb : b = C
      · subst hb
        rcases bc with ⟨_, z⟩ | ⟨_, z⟩
        · rw [z] at e; cases e
        · rw [z] at e; cases e; exact go3
      · rw [bo b hb] at e
        rw [same.2 b hb]
        exact hst b o e
    · rw [bo a aC]; exact hna
    · refine ff_base (B := B) (fun b hb => bo b fun z => hCs (z ▸ hb)) (Heap.FunFrames.sameBut same ⟨o3, es3, ep3, go3, hd3, hs3, hn3⟩ hff)
    · rw [same.2 a aC]; exact ge
    · rw [bo T TC]; exact hbT
    · rw [same.2 T TC]; exact gT
  show wpAny _ _ (PySem.passOn _ (.ref a) X.env) _ _ _
  unfold PySem.passOn
  refine wpAny_bind (wpAny_field (by show h3.get? a = some oe; rw [same.2 a aC]; exact ge) hde h1v ?_)
  have ne : ((Value.ref T == Value.none) = true) = False := by simp
  simp only [ne, if_false]
  rw [frm]
  refine wpAny_bind (HandSPX.setFlight_onZ held3 fun h4 held4 up4 => ?_)
  refine wpAny_throw (tk _ _ ?_)
  have I0 : Inv X [] σ1 H1 sI := Inv.unpinned (pl := pins1) (by rw [List.nil_append]; exact I1)
  have f0 : FpOk X pins H1 C := I.fpOk hC hC1
  have fC : FpOk X [] H1 C := ⟨f0.1, f0.2.1, f0.2.2.1, f0.2.2.2.1, f0.2.2.2.2.1, fun p hp => f0.2.2.2.2.2 p (by simp at hp; simp [hp])⟩
  have I3 := I0.turnedL (h' := hI) (t' := sI.toks) (ch := [C]) (fun b o hb e => by rw [io b (by simpa using hb)]; exact e) (fun b hb => by
    have : b = C := by simpa using hb
    subst this
    exact fC)
  have inC : ∀ o, sI.heap.get? C = some o → B.get? C = some o := fun o e => inB C o e (by rw [stk]; exact hCs)
  refine ⟨a, B3, { sI with heap := hI }, [], σ1, H1, cls, d, rfl, I3, fun b o e hb => ?_, fun b o e nfl => ?_, ?_, na, sameOs, allB, w⟩
  · by_cases h : b = C
    · subst h
      rcases ic with ⟨_, z⟩ | ⟨⟨oi, zi⟩, z⟩
      · have e' : hI.get? b = some o := e
        rw [z] at e'; cases e'
      · have e' : hI.get? b = some o := e
        rw [z] at e'
        rcases bc with ⟨y, _⟩ | ⟨_, y⟩
        · rw [inC oi zi] at y; cases y
        · rw [y]; exact e'
    · have e' : hI.get? b = some o := e
      rw [io b h] at e'
      rw [bo b h]
      exact inB b o e' hb
  · by_cases h : b = C
    · subst h
      have e' : hI.get? b = some o := e
      rcases ic with ⟨_, z⟩ | ⟨_, z⟩
      · rw [z] at e'; cases e'
      · rw [z] at e'
        cases e'
        exact up4 b o3 go3 nfl
    · have e' : hI.get? b = some o := e
      rw [io b h] at e'
      obtain ⟨sl1, e1⟩ := upTo b o e' nfl
      obtain ⟨sl2, e2⟩ := up2 b _ e1 nfl
      rw [← same.2 b h] at e2
      obtain ⟨sl3, e3⟩ := up4 b { cls := o.cls, dict := o.dict, data := o.data, slots := sl2 } e2 nfl
      exact ⟨sl3, e3⟩
  · rw [stk]
    exact .inr (.inr held4)
end
section
variable {X : Cx} {W : WX}
theorem get_lt {h : Heap} {b : Addr} {o : Obj} (e : h.get? b = some o) : b < h.objs.size := Classical.byContradiction fun z => by
  unfold Heap.get? at e
  rw [Array.getElem?_eq_none (Nat.le_of_not_lt z)] at e
  cases e
theorem wish_fp {Y : Cx} {E : Value → Shared → Prop} {pins : List (Addr × Obj)} {H : Hp} {b : Addr} (h : FpOk Y pins H b) : FpOk (Y.wish E) pins H b := h
theorem pe_lcX {elt tg iter : Expr} {ifs : List Expr} {scope : Scope} {own : List (Str × Nat)} {pos : Pos} {wi : TI} {g : TG} {tt : TT} {te : L2.St → TE} (hc : X.calm = true) (hN : X.N.Nodup) (hi : PI X tg iter wi) (ok : BlkOk X.N X.env.scope scope own)
    (tk : Takes X W) (stk : X.stack = X.env :: X.outer) (frm : X.env.frame = some X.env.locals)
    (hg : ∀ s H C cl fp, PG (X.blk s H scope (compEnvC scope cl C X.env) fp) tg g) (ht : ∀ s H C cl fp, PTs (X.blk s H scope (compEnvC scope cl C X.env) fp) ifs tt)
    (he : ∀ s H C cl fp xe σ, (∀ σ1, PassesAt (CX X.prog X.w) ((X.blk s H scope (compEnvC scope cl C X.env) fp).wish xe) σ1 (fun c d H' => W c d σ H')) → PE ((X.blk s H scope (compEnvC scope cl C X.env) fp).wish xe) elt (te σ))
    (hs : ∀ x, foldedSetIterable iter X.env x = pure x) : PE X (.ListComp elt [⟨tg, iter, ifs, 0⟩] scope pos) (fun σ H Q => tLc wi g tt (te σ) (own.map (·.2)) σ H Q) := by
  constructor
  intro pins s σ H Q I h
  rw [eval_ListComp]
  refine comprehension_at (g := ⟨tg, iter, ifs, 0⟩) (gs := []) (use := none) rfl hs (closure_ok fun y hy hk => ?_) ok.kind (fun y hy hk => ?_) ?_
  · refine I.ok.has y.1 ?_
    rcases ok.free y hy hk with z | z
    · exact .inl z
    · exact .inr z
  · rw [ok.uniq y hy, hk]
  refine thn (hi.run pins s σ H _ I h) fun v s1 hv => thn hv fun itv s2 ⟨it, fp, tn, J, H1, e, I2, tu, tn0, fpk, k⟩ => ?_
  subst e
  refine wpAny_newList ?_ (Nat.zero_le _)
  have I3 := I2.lnew (ys := []) (its := []) (t' := s2.toks) .nil (Nat.zero_le _)
  obtain ⟨Wv, ⟨m0, w0⟩, step⟩ := k s2.heap.objs.size (I2.hok.fresh (Nat.le_refl _))
  generalize eD : s2.heap.objs.size = D at I3 w0 step ⊢
  generalize es3 : ({ heap := s2.heap.push { cls := Value.type "list", data := Data.seq ([] : List Value).toArray }, gens := s2.gens, drawn := s2.drawn, toks := s2.toks, os := s2.os } : Shared) = s3 at I3 ⊢
  have old : ∀ b o, s2.heap.get? b = some o → s3.heap.get? b = some o := fun b o e => by
    rw [← es3]
    rw [Heap.get?_push_ne _ _ _ (Nat.ne_of_lt (get_lt e))]
    exact e
  have lt3 : ∀ b ∈ fp, b < D := fun b hb => by
    obtain ⟨o, ho, _⟩ := tu.obj 0 s2.heap tn0 b hb
    rw [← eD]
    exact get_lt ho
  have fp3 : ∀ b ∈ fp, FpOk X pins (upd H1 D (.lst [])) b ∧ b < s3.heap.objs.size := fun b hb => by
    have f := fpk b hb
    have l := lt3 b hb
    refine ⟨⟨by rw [upd_ne (Nat.ne_of_lt l)]; exact f.1, f.2⟩, ?_⟩
    rw [← es3]
    show b < (s2.heap.objs.push _).size
    rw [Array.size_push, eD]
    exact Nat.lt_succ_of_lt l
  refine newEnv_comp ?_
  have IB := block_start (own := own) (scope := scope) I3 ok hN fp3
  generalize eC : s3.heap.objs.size = C at IB ⊢
  generalize ecl : cellsFrom (C + 1) scope.names (cloFrom X.env.cells scope.names []) = cl at IB ⊢
  have s4old : ∀ b o, s3.heap.get? b = some o → (pushCells (s3.heap.push { cls := Value.type "dict", data := Data.dict #[] }) scope.names).get? b = some o := fun b o e => by
    refine pushCells_keeps _ _ _ _ ?_
    rw [Heap.get?_push_ne _ _ _ (Nat.ne_of_lt (get_lt e))]
    exact e
  generalize es4 : ({ heap := pushCells (s3.heap.push { cls := Value.type "dict", data := Data.dict #[] }) scope.names, gens := s3.gens, drawn := s3.drawn, toks := s3.toks, os := s3.os } : Shared) = s4 at IB ⊢
  have tn4 : tn 0 s4.heap := tu.keep 0 s2.heap s4.heap tn0 fun b hb o e => by
    rw [← es4]
    exact s4old b o (old b o e)
  show codeAny _ _ (Code.compStart _ 0 (.ref it) (.ref D) (compEnvC scope cl C X.env)) (compEnds _ _ _ _ _ (.ref D) (compEnvC scope cl C X.env)) s4
  have loop : codeAny (model X.prog X.w) X.A (Code.compLoop (.ListComp elt [⟨tg, iter, ifs, 0⟩] scope pos) 0 (.ref it) (.ref D) (compEnvC scope cl C X.env)) (compEnds (model X.prog X.w) X.A X.xe none (EP X pins σ Q) (.ref D) (compEnvC scope cl C X.env)) s4 := by
    have hCs : C ∉ frs X.stack := fun z => by
      have f0 : FpOk X pins (upd H1 D (.lst [])) C := I3.fpOk (Nat.le_of_eq eC) IB.free
      rcases List.mem_cons.mp (I3.stkSub C z) with e | e
      · exact f0.2.1 e
      · exact f0.2.2.1 e
    have fpY : ∀ H', (∀ b ∈ fp, H' b = none) → ∀ b ∈ fp, FpOk (X.blk s3 (upd H1 D (.lst [])) scope (compEnvC scope cl C X.env) fp) [] H' b := fun H' hH b hb => ⟨hH b hb, (IB.ok.exf b hb).1, IB.ok.exfs b hb, .inl hb, (IB.ok.exf b hb).2, fun p hp => by cases hp⟩
    have back : ∀ pl σ3 H' t, wipe σ3 (own.map (·.2)) = wipe σ (own.map (·.2)) → Inv (X.blk s3 (upd H1 D (.lst [])) scope (compEnvC scope cl C X.env) fp) ([] ++ pl) σ3 H' t → Inv (X.blk s3 (upd H1 D (.lst [])) scope (compEnvC scope cl C X.env) fp) [] (wipe σ (own.map (·.2))) H' t := fun pl σ3 H' t e z => by
      refine (Inv.unpinned z).weak ?_ fun i v h => ?_
      · rw [← e, wipe_length]
      · rw [← e] at h
        exact (wipe_some h).1
    refine compLoop_any (fun n s' => ∃ i H', Inv (X.blk s3 (upd H1 D (.lst [])) scope (compEnvC scope cl C X.env) fp) [] (wipe σ (own.map (·.2))) H' s' ∧ tn i s'.heap ∧ Wv i n H' ∧ ∀ b ∈ fp, H' b = none) ?_ m0 ⟨0, _, IB, tn4, w0, fun b hb => (fp3 b hb).1.1⟩
    rintro n s' ⟨i, H', IH, tni, wv, fpn⟩
    rcases step i n H' wv with ⟨stop, q⟩ | ⟨go, Nx, nx, y⟩
    · refine thnF (tu.done (X.blk s3 (upd H1 D (.lst [])) scope (compEnvC scope cl C X.env) fp) rfl rfl rfl hc i [] s' _ H' (fun _ _ => False) IH (fpY H' fpn) tni stop) fun r t ⟨hr, It⟩ => ?_
      subst hr
      obtain ⟨m, hns, _⟩ := It.loc
      refine ⟨m, hns, fun h' same => ?_⟩
      have Io := unblk I3 (fun b hb => (fp3 b hb).1) It
      have fC : FpOk X pins H' C := I3.fpOk (Nat.le_of_eq eC) It.free
      have I5 := Io.turnedL (h' := h') (t' := t.toks) (ch := [C]) (fun b o hb e => by rw [same.2 b (fun z => hb (List.mem_singleton.mpr z))]; exact e) (fun b hb => by
        have : b = C := by simpa using hb
        subst this
        exact fC)
      exact ⟨.ref D, H', I5, rfl, q⟩
    · refine thn (tu.item (X.blk s3 (upd H1 D (.lst [])) scope (compEnvC scope cl C X.env) fp) rfl rfl rfl hc i [] s' _ H' _ IH (fpY H' fpn) tni go) fun r t ⟨u, hr, q1⟩ => ?_
      subst hr
      refine thn q1 fun _ t2 ⟨x, H2, Iq, rx, yl, tn2, fpn2⟩ => ?_
      have P2 := Iq.pinned (fpY H2 fpn2) (tu.obj (i + 1) _ tn2)
      have keepP : ∀ σ' H' t', Inv (X.blk s3 (upd H1 D (.lst [])) scope (compEnvC scope cl C X.env) fp) ([] ++ pinsAt fp t2.heap) σ' H' t' → tn (i + 1) t'.heap ∧ ∀ b ∈ fp, H' b = none := fun σ' H' t' Iz => by
        have gg : ∀ b ∈ fp, ∀ o, t2.heap.get? b = some o → t'.heap.get? b = some o ∧ H' b = none := fun b hb o e => by
          have mem : (b, o) ∈ ([] : List (Addr × Obj)) ++ ([] ++ pinsAt fp t2.heap) := by
            simp only [List.nil_append]
            exact List.mem_filterMap.mpr ⟨b, hb, by simp [e]⟩
          have := Iz.pin (b, o) mem
          exact ⟨this.1, this.2.1⟩
        refine ⟨tu.keep _ _ _ tn2 fun b hb o e => (gg b hb o e).1, fun b hb => ?_⟩
        obtain ⟨o, ho, _⟩ := tu.obj _ _ tn2 b hb
        exact (gg b hb o ho).2
      refine thnF ((hg s3 _ C cl fp).run _ t2 _ H2 x u _ P2 rx (y x H2 yl)) fun _ t3 ⟨σ3, H3, P3, w3, z3⟩ => ?_
      refine thnF ((ht s3 _ C cl fp).run _ t3 σ3 H3 _ P3 z3) fun b t4 ⟨H4, P4, z4⟩ => ?_
      cases b with
      | false =>
        rw [if_neg (by simp)] at z4 ⊢
        obtain ⟨m', lt, wv'⟩ := nx H4 z4
        obtain ⟨k1, k2⟩ := keepP _ _ _ P4
        exact ⟨m', lt, i + 1, H4, back _ _ _ _ w3 P4, k1, wv', k2⟩
      | true =>
        rw [if_pos rfl] at z4 ⊢
        have pe := (he s3 (upd H1 D (.lst [])) C cl fp (xeB X W C) σ (fun σ1 => pass_blk I3 (fun b hb => (fp3 b hb).1) hCs σ1)).run _ t4 σ3 H4 _ (P4.wish _) z4
        refine wpAny_mono pe (fun yv t5 ⟨yv', H5, P5, ry, acc, ea, hz, hnx⟩ => ?_) (fun e t z => fails_out tk stk frm I3 (Nat.le_of_eq eC) hCs z)
        refine app_ok (X := X.blk s3 (upd H1 D (.lst [])) scope (compEnvC scope cl C X.env) fp) P5.unwish ea hz ry fun t6 P6 => ?_
        obtain ⟨m', lt, wv'⟩ := nx _ hnx
        obtain ⟨k1, k2⟩ := keepP _ _ _ P6
        exact ⟨m', lt, i + 1, _, back _ _ _ _ w3 P6, k1, wv', k2⟩
  exact codeAny_compStart_list loop (tu.self X.A 0 s4 _ _ tn4 loop)
end
/-- the turns of a comprehension whose step may raise: the new list stands at n -/
def lcRunX (I : Itd) (g : DGf) (tt : DT) (de : DX) (n : Nat) : List D → Dn → Sto → Rs Unit
  | [], _, s => if I.still s = true then some (.ok (), s) else none
  | d :: r, Δ, s => if I.still s = true then (match g d Δ s with
    | some (Δ1, s1) => match tt Δ1 s1 with
      | some (.ok true, s2) => match de Δ1 s2 with
        | some (.ok y, s3) => match lstAt s3 n with
          | some acc => if acc.length < sizeLine then lcRunX I g tt de n r Δ (s3.set n (.lst (acc ++ [y]))) else none
          | none => none
        | some (.error x, s3) => some (.error x, s3)
        | none => none
      | some (.ok false, s2) => lcRunX I g tt de n r Δ s2
      | _ => none
    | none => none) else none
def dLcX (vs : List Nat) (di : DI) (g : DGf) (tt : DT) (de : DX) : DX := fun Δ => mbind (di Δ) fun I s => match lcRunX I g tt de s.length I.its (wipeD Δ vs) (s ++ [.lst []]) with
  | some (.ok _, s') => some (.ok (.obj s.length), s')
  | some (.error x, s') => some (.error x, s')
  | none => none
section
variable {X : Cx} {W : WX}
/-- what is wished of the end of the turns -/
def EndX (K : PySem.W.Frag) (W : WK) (φ1 : List Addr) (H1 : Hp) (n : Nat) (Q : VK) : Rs Unit → Prop
  | some (.ok _, sf) => ∀ ψ b H', Fu K φ1 ψ H1 H' → So K ψ H' sf → Dt K ψ H' b (.obj n) → Q b H'
  | some (.error x, sf) => ∀ ψ H' cls dd, Fu K φ1 ψ H1 H' → So K ψ H' sf → Xr K ψ H' cls dd x → W cls dd H'
  | none => False
theorem lc_readX {K : PySem.W.Frag} {vs : List Nat} {t : TG} {g : DGf} {di : DI} {tt : DT} {de : DX} {σ : L2.St} {H : Hp} {Q : VK} (ng : NgOk K vs t g) (h : upE K W (dLcX vs di g tt de) σ H Q) :
    tLc (upI K W di) t (upT K W0 tt) (upE K (fun c d _ H' => W c d σ H') de) vs σ H Q := by
  obtain ⟨Δ, φ, s, hσ, hs, h⟩ := h
  refine ⟨Δ, φ, s, hσ, hs, Ps.mono (fun φ1 J H1 I s1 z => ?_) (Ps.bind (R := Yl K) h)⟩
  obtain ⟨f1, so1, yl, h1⟩ := z
  have hσ1 := hσ.fu f1
  intro Dd hD
  have h1' : EndX K (wAt W σ) φ1 H1 s1.length Q (lcRunX I g tt de s1.length I.its (wipeD Δ vs) (s1 ++ [.lst []])) := by
    cases e : lcRunX I g tt de s1.length I.its (wipeD Δ vs) (s1 ++ [.lst []]) with
    | none => rw [e] at h1; exact h1.elim
    | some p =>
      obtain ⟨r, sf⟩ := p
      rw [e] at h1
      cases r with
      | ok _ => exact fun ψ b H' f so rd => h1 ψ b H' f so rd
      | error x => exact h1
  generalize ef : lcRunX I g tt de s1.length I.its (wipeD Δ vs) (s1 ++ [.lst []]) = res at h1'
  have fD : Fu K φ1 (φ1 ++ [Dd]) H1 (upd H1 Dd (.lst [])) := fu_newO hD
  have soD : So K (φ1 ++ [Dd]) (upd H1 Dd (.lst [])) (s1 ++ [.lst []]) := Dts.newO so1 hD .nil
  have gD : (φ1 ++ [Dd])[s1.length]? = some Dd := by rw [so1.len, List.getElem?_append_right (Nat.le_refl _)]; simp
  refine ⟨fun i m H' => m = I.its.length - i ∧ i ≤ I.its.length ∧ ∃ ψ s', Fu K φ1 ψ H1 H' ∧ So K ψ H' s' ∧ ψ[s1.length]? = some Dd ∧ lcRunX I g tt de s1.length (I.its.drop i) (wipeD Δ vs) s' = res,
    ⟨_, rfl, Nat.zero_le _, _, _, fD, soD, gD, ef⟩, ?_⟩
  rintro i m H' ⟨rfl, hi, ψ, s', f, so, gd, e⟩
  by_cases hl : i < I.its.length
  · rw [List.drop_eq_getElem_cons hl] at e
    unfold lcRunX at e
    by_cases st : I.still s' = true
    · rw [if_pos st] at e
      obtain ⟨y1, _⟩ := yl ψ H' s' f so (Itd.still_at st) i
      obtain ⟨go, yld⟩ := y1 _ (List.getElem?_eq_getElem hl)
      refine .inr ⟨go, fun H2 => i + 1 ≤ I.its.length ∧ ∃ ψ s', Fu K φ1 ψ H1 H2 ∧ So K ψ H2 s' ∧ ψ[s1.length]? = some Dd ∧ lcRunX I g tt de s1.length (I.its.drop (i + 1)) (wipeD Δ vs) s' = res, fun H2 z => ⟨_, by omega, rfl, z.1, z.2⟩, fun x H2 y => ?_⟩
      obtain ⟨f2, so2, rx⟩ := yld x H2 y
      have ff := f.trans f2
      cases eg : g I.its[i] (wipeD Δ vs) s' with
      | none => rw [eg] at e; subst e; exact h1'.elim
      | some p =>
        obtain ⟨Δ1, s2⟩ := p
        simp only [eg] at e
        refine ng x _ (wipe σ vs) (wipeD Δ vs) ψ H2 s' Δ1 s2 _ rx (wipe_sg (hσ1.fu ff) vs) eg fun es σ2 w2 hσ2 => ⟨w2.trans wipe_wipe, ?_⟩
        subst es
        cases et : tt Δ1 s2 with
        | none => rw [et] at e; subst e; exact h1'.elim
        | some p =>
          obtain ⟨r, s3⟩ := p
          cases r with
          | error _ => simp only [et] at e; subst e; exact h1'.elim
          | ok b =>
            refine ⟨Δ1, ψ, s2, hσ2, so2, ?_⟩
            rw [et]
            intro ψ3 b' H3 f3 so3 eb
            subst eb
            have ff3 := ff.trans f3
            cases b' with
            | false =>
              simp only [et] at e
              exact iteF ⟨hl, ψ3, s3, ff3, so3, f3.get (f2.get gd), e⟩
            | true =>
              simp only [et] at e
              refine iteT ?_
              cases ee : de Δ1 s3 with
              | none => rw [ee] at e; subst e; exact h1'.elim
              | some p =>
                obtain ⟨r, s4⟩ := p
                cases r with
                | error x =>
                  simp only [ee] at e
                  subst e
                  refine ⟨Δ1, ψ3, s3, hσ2.fu f3, so3, ?_⟩
                  rw [ee]
                  exact fun ψ4 H4 cls dd f4 so4 xr => h1' ψ4 H4 cls dd (ff3.trans f4) so4 xr
                | ok yd =>
                  refine ⟨Δ1, ψ3, s3, hσ2.fu f3, so3, ?_⟩
                  rw [ee]
                  intro ψ4 yv H4 f4 so4 ry
                  simp only [ee] at e
                  have gd4 : ψ4[s1.length]? = some Dd := f4.get (f3.get (f2.get gd))
                  split at e
                  · rename_i acc ea
                    split at e
                    · rename_i hz
                      obtain ⟨ws, k, r⟩ := so4.lst (lstAt_eq ea) gd4
                      have fs : Fu K ψ4 ψ4 H4 (upd H4 Dd (.lst (ws ++ [yv]))) := fu_set so4 gd4
                      refine ⟨ws, k, by rw [r.length]; exact hz, hl, ψ4, _, (ff3.trans f4).trans fs, so4.set (o := .lst (acc ++ [yd])) gd4 ⟨_, upd_same, (r.append (.cons ry .nil)).fu fs⟩, gd4, e⟩
                    · subst e; exact h1'.elim
                  · subst e; exact h1'.elim
    · rw [if_neg st] at e
      subst e
      exact h1'.elim
  · have e2 : i = I.its.length := by omega
    subst e2
    rw [List.drop_length] at e
    unfold lcRunX at e
    by_cases st : I.still s' = true
    · rw [if_pos st] at e
      subst e
      obtain ⟨_, y2⟩ := yl ψ H' _ f so (Itd.still_at st) I.its.length
      exact .inl ⟨y2 (Nat.le_refl _), h1' ψ _ H' f so (.obj gd)⟩
    · rw [if_neg st] at e
      subst e
      exact h1'.elim
/-- a call where what flies out of a call is taken (in a comprehension's block) -/
theorem run_fnP {pins : List (Addr × Obj)} {σ : L2.St} {H : Hp} {s : Shared} {Q : VK} {us : List Value} {vs : List V} {k : Nat} {f : Addr} {fd : FuncData} {ps : List Str} {fM : FnD} (F : FnX X k f fd ps fM) (hr : RoomG k X.A) (hb : Binds X.K fd ps []) (pa : ∀ σ, PassesAt (CX X.prog X.w) X σ (WE W σ)) (I : Inv X pins σ H s) (r : Vals vs us) (h : spD X.K ps.length fM (vs ++ []) H Q (WE W σ)) :
    wpAny (model X.prog X.w) X.A (call (.ref f) us) (EP X pins σ Q) X.xe s := by
  rw [List.append_nil] at h
  have hl : us.length = ps.length := r.length.symm.trans h.1
  have bb := hb s us I.kIn (by rw [List.append_nil]; exact hl)
  rw [List.append_nil] at bb
  refine wpAny_call (codeAny_mono (F.run X.A X.stack s H ⟨us, []⟩ us vs Q (WE W σ) hr I.env0 bb r h) fun q s' hq => ?_)
  cases q with
  | error e => exact pa σ pins H s e s' I hq
  | ok fl => cases fl with
    | ret u => exact I.after hq
    | next => exact hq.elim
    | brk => exact hq.elim
    | cont => exact hq.elim
theorem de_callP {n k : Nat} {x : Str} {f : Addr} {fd : FuncData} {ps : List Str} {fM : FnD} {e : Expr} {es : List Expr} {da : DA} {p pos : Pos} (F : FnX X k f fd ps fM) (hr : RoomG k X.A) (hm : X.mg x = some (.ref f)) (hk : PySem.W.keepIn X.K (.ref f) = true) (hb : Binds X.K fd ps []) (pa : ∀ σ, PassesAt (CX X.prog X.w) X σ (WE W σ)) (ha : DAs X W (e :: es) da) (hn : ps.length = n := by rfl) (hg : Gl X x := by rfl)
    (hdb : (x == ("__debug__" : Str)) = false := by decide) (he : starEach (e :: es) X.env = (false, eval e X.env) :: starEach es X.env := by rfl) (hpl : (backTo pos (starEach es X.env)).any (·.1) = false := by rfl) :
    DE X W (.Call (.Name x p) (e :: es) [] pos) (dCl (argN n fM) da) := by
  subst hn
  refine ⟨fun pins s σ H Q I ⟨Δ, φ, st, hσ, hs, h⟩ => wpAny_Call_Name_kw (ld_glob I hg hm ?_ hdb)⟩
  have hA : upA X.K W da σ H fun vs H2 => ∃ φ2 xs s2, So X.K φ2 H2 s2 ∧ Dts X.K φ2 H2 vs xs ∧ Ps X.K (wAt W σ) (Dt X.K) φ2 H2 (fun _ v H' _ _ => Q v H') (argN ps.length fM xs s2) :=
    upA_bind hσ hs h fun φ2 vs H2 xs s2 f2 hσ2 hs2 rs h3 => ⟨φ2, xs, s2, hs2, rs, h3⟩
  refine PySem.W.callWith_K (h₀ := X.base) I.ok.mod.kin hk (thn (ha.run pos pins s σ H _ I hA) fun us t1 ⟨vs, H1, I1, r, φ2, xs, s2, hs2, rs, h3⟩ => ⟨I1.kIn, ?_⟩) he hpl
  obtain ⟨hl, h4⟩ := argN_len h3
  exact run_fnP F hr hb pa I1 r (call_sp F hb (by rw [rs.length]; exact hl) hs2 rs h4)
/-- the comprehension's context, with its way out -/
abbrev BkX (X : Cx) (scope : Scope) (s : Shared) (H : Hp) (C : Addr) (cl : List (Str × Addr)) (fp : List Addr) (xe : Value → Shared → Prop) : Cx := (X.blk s H scope (compEnvC scope cl C X.env) fp).wish xe
theorem de_lcX {elt tg iter : Expr} {ifs : List Expr} {scope : Scope} {own : List (Str × Nat)} {pos : Pos} {di : DI} {t : TG} {g : DGf} {tt : DT} {de : DX} (hc : X.calm = true) (hN : X.N.Nodup) (tk : Takes X W) (stk : X.stack = X.env :: X.outer) (frm : X.env.frame = some X.env.locals) (hi : DIt X W tg iter di) (ok : BlkOk X.N X.env.scope scope own)
    (ng : NgOk X.K (own.map (·.2)) t g) (hg : ∀ s H C cl fp, PG (Bk X scope s H C cl fp) tg t) (ht : ∀ s H C cl fp, DTs (Bk X scope s H C cl fp) W0 ifs tt)
    (he : ∀ s H C cl fp xe (W' : WX), (∀ σ1, PassesAt (CX X.prog X.w) (BkX X scope s H C cl fp xe) σ1 (WE W' σ1)) → DE (BkX X scope s H C cl fp xe) W' elt de)
    (hs : ∀ x, foldedSetIterable iter X.env x = pure x := by intro _; rfl) : DE X W (.ListComp elt [⟨tg, iter, ifs, 0⟩] scope pos) (dLcX (own.map (·.2)) di g tt de) :=
  pe_imp (pe_lcX (tt := upT X.K W0 tt) (te := fun σ => upE X.K (fun c d _ H' => W c d σ H') de) hc hN hi ok tk stk frm hg ht (fun s H C cl fp xe σ pa => he s H C cl fp xe (fun c d _ H' => W c d σ H') pa) hs) fun σ H Q h => lc_readX ng h
end
end DV

namespace DV
open PySem L2 PyProof.Rows
/-! ### // by a divisor above 0, of any length -/
def divWOk (_ j : Int) : Bool := decide (0 < j) && decide (j.natAbs.log2 < 9000)
def fDivW : Op2 := fI divWOk fun i j => .int (i / j)
theorem dop_divW {X : Cx} : DOp X (binaryOp .FloorDiv) fDivW := dop_I op_fdivW (fun i j h => by
  unfold divWOk at h
  simp only [Bool.and_eq_true, decide_eq_true_eq] at h
  exact h) fun _ _ _ _ => .int _
end DV

namespace DV
open PySem L2 PyProof.Rows
/-! ### for x, y in zip(a, b): two lists, or two tuples -/
def iZipB (da : DA) : DI := fun Δ => mbind (da Δ) fun xs s => match xs with
  | [.tup x, .tup y] => some (.ok ⟨zipD x y, none⟩, s)
  | _ => none
theorem zipD_get {xs ys : List D} {i : Nat} {d : D} (h : (zipD xs ys)[i]? = some d) : ∃ x y, xs[i]? = some x ∧ ys[i]? = some y ∧ d = .tup [x, y] := by
  unfold zipD at h
  rw [List.getElem?_map] at h
  cases e : (xs.zip ys)[i]? with
  | none => rw [e] at h; cases h
  | some p =>
    rw [e] at h
    have q := List.getElem?_zip_eq_some.mp e
    exact ⟨p.1, p.2, q.1, q.2, (Option.some.inj h).symm⟩
theorem zipD_len (xs ys : List D) : (zipD xs ys).length = min xs.length ys.length := by
  unfold zipD
  rw [List.length_map, List.length_zip]
theorem yl_zT {K : PySem.W.Frag} {φ : List Addr} {H : Hp} {a b : Addr} {vs us : List V} {xs ys : List D} (h1 : SqT K H a vs) (h2 : SqT K H b us) (r1 : Dts K φ H vs xs) (r2 : Dts K φ H us ys) : Yl K φ H (RZ.ItzT K a b) ⟨zipD xs ys, none⟩ := fun φ' H' s' f so st i => by
  have k1 := f.go _ _ h1
  have k2 := f.go _ _ h2
  refine ⟨fun d e => ?_, fun h => ⟨vs, us, k1, k2, by
    have l1 := r1.length
    have l2 := r2.length
    rw [zipD_len] at h
    rcases Nat.le_total xs.length ys.length with z | z
    · rw [Nat.min_eq_left z] at h
      exact .inl (by rw [l1]; exact h)
    · rw [Nat.min_eq_right z] at h
      exact .inr (by rw [l2]; exact h)⟩⟩
  obtain ⟨x, y, hx, hy, rfl⟩ := zipD_get e
  obtain ⟨v, hv, rv⟩ := r1.get hx
  obtain ⟨u, hu, ru⟩ := r2.get hy
  refine ⟨⟨vs, us, v, u, k1, k2, hv, hu⟩, fun w H'' y => ?_⟩
  obtain ⟨T, z1, z2, rfl, hT, rfl, y1, y2⟩ := y
  have e1 := y1 vs k1
  have e2 := y2 us k2
  rw [hv] at e1
  rw [hu] at e2
  cases e1
  cases e2
  have fT : Fu K φ' φ' H' (upd H' T (.tup [v, u])) := fu_new hT
  exact ⟨fT, so.new hT, .tup (SqT.of upd_same) (.cons ((rv.fu f).fu fT) (.cons ((ru.fu f).fu fT) .nil))⟩
theorem di_zipB {X : Cx} {W : WX} {elts : List Expr} {kk : Nat} {tpos : Pos} {e e2 : Expr} {da : DA} {p pos : Pos} (hg : Gl X "zip") (hm : X.mg "zip" = none) (ha : DAs X W [e, e2] da) (hs : starEach [e, e2] X.env = (false, eval e X.env) :: starEach [e2] X.env := by rfl)
    (hs2 : ((backTo pos (starEach [e2] X.env)).any fun x => x.fst) = false := by rfl) : DIt X W (.Tuple elts kk tpos) (.Call (.Name "zip" p) [e, e2] [] pos) (iZipB da) :=
  pi_imp (RZ.pi_zipA hg hm ha hs hs2) fun σ H R ⟨Δ, φ, s, hσ, hs, h⟩ => upA_bind hσ hs h fun φ1 v H1 x s1 f1 hσ1 hs1 rx h1 => by
    split at h1
    · obtain ⟨u, w, rfl, r, r'⟩ := dts2 rx
      obtain ⟨a, vs, rfl, q1, t1⟩ := r.tupI
      obtain ⟨b, us, rfl, q2, t2⟩ := r'.tupI
      exact ⟨a, b, vs, us, rfl, .inr ⟨q1, q2, h1.ok hs1 (yl_zT q1 q2 t1 t2)⟩⟩
    · exact h1.elim
end DV

set_option maxHeartbeats 2000000
namespace DV
open PySem L2 PyProof.Rows
/-! ### zip of two things, each a list or a tuple -/
def ItK (k : Bool) (h : Heap) (it a : Addr) (i : Nat) : Prop := if k = true then h.IsTupleIter it a i else h.IsListIter it a i
def SqK (k : Bool) (K : PySem.W.Frag) (H : Hp) (a : Addr) (xs : List V) : Prop := if k = true then SqT K H a xs else SqL K H a xs
def SK (k : Bool) (h : Heap) (a : Addr) (its : Array Value) : Prop := if k = true then h.IsTuple a its else h.IsList a its
section
variable {prog : Program} {w : World} {A : Around}
theorem ItK.at {k : Bool} {h h' : Heap} {it a : Addr} {i : Nat} (s : ItK k h it a i) (q : ∀ o, h.get? it = some o → h'.get? it = some o) : ItK k h' it a i := by
  cases k with
  | true =>
    obtain ⟨o, h1, h2⟩ : h.IsTupleIter it a i := s
    exact ⟨o, q o h1, h2⟩
  | false =>
    obtain ⟨o, h1, h2⟩ : h.IsListIter it a i := s
    exact ⟨o, q o h1, h2⟩
theorem SK.at {k : Bool} {h h' : Heap} {a : Addr} {its : Array Value} (s : SK k h a its) (q : ∀ o, h.get? a = some o → h'.get? a = some o) : SK k h' a its := by
  cases k with
  | true =>
    obtain ⟨o, h1, h2⟩ : h.IsTuple a its := s
    exact ⟨o, q o h1, h2⟩
  | false =>
    obtain ⟨o, h1, h2⟩ : h.IsList a its := s
    exact ⟨o, q o h1, h2⟩
theorem drawsK (hh : A.handled = none) (k : Bool) (it a : Addr) (ne : a ≠ it) (its : Array Value) : Draws prog w A it [it, a] its.size (fun i v => its[i]? = some v) (fun i h => ItK k h it a i ∧ SK k h a its) := by
  cases k with
  | true => exact Draws.tuple hh it a ne its
  | false => exact Draws.list hh it a ne its
/-- behind the last one, at whatever place -/
theorem drawsEnd (hh : A.handled = none) (k : Bool) (it a : Addr) (ne : a ≠ it) (its : Array Value) (n : Nat) (hn : its.size ≤ n) : Draws prog w A it [it, a] n (fun i v => its[i]? = some v) (fun i h => i = n ∧ ItK k h it a i ∧ SK k h a its) := by
  refine ⟨fun i h s => ?_, fun i h h' s q => ⟨s.1, s.2.1.at (q it (by simp)), s.2.2.at (q a (by simp))⟩, fun i s Q E hi st hQ => ?_, fun s Q E st hE => ?_⟩
  · obtain ⟨_, s, _⟩ := s
    cases k with
    | true =>
      obtain ⟨o, h1, _⟩ : h.IsTupleIter it a i := s
      exact ⟨o, h1⟩
    | false =>
      obtain ⟨o, h1, _⟩ : h.IsListIter it a i := s
      exact ⟨o, h1⟩
  · have := st.1
    omega
  · obtain ⟨_, s1, s2⟩ := st
    have e : its[n]? = none := Array.getElem?_eq_none hn
    cases k with
    | true => exact RZ.nextOf_tuple_end hh s1 s2 e hE
    | false => exact PySem.wpAny_nextOf_list_end hh s1 s2 e hE
theorem beginsK (k : Bool) (a : Addr) (its : Array Value) : ∃ o, Begins (.ref a) o (fun h => SK k h a its) ∧ ∀ (h : Heap) it, h.get? it = some o → ItK k h it a 0 := by
  cases k with
  | true => exact ⟨_, begins_tuple a its, fun h it e => ⟨_, e, rfl, rfl⟩⟩
  | false => exact ⟨_, begins_list a its, fun h it e => ⟨_, e, rfl, rfl⟩⟩
end
theorem inv_sq {X : Cx} {k : Bool} {pins : List (Addr × Obj)} {σ : L2.St} {H : Hp} {s : Shared} {a : Addr} {xs : List V} (I : Inv X pins σ H s) (h : SqK k X.K H a xs) : ∃ its, Vals xs its ∧ SK k s.heap a its.toArray ∧ xs.length ≤ sizeLine := by
  cases k with
  | true =>
    obtain ⟨its, h1, h2, h3⟩ := I.tuple (a := a) (xs := xs) h
    exact ⟨its, h1, h2, h3⟩
  | false =>
    obtain ⟨its, h1, h2, h3⟩ := I.list (a := a) (xs := xs) h
    exact ⟨its, h1, h2.isList, h3⟩
def Itm (K : PySem.W.Frag) (k1 k2 : Bool) (a b : Addr) : It :=
  { go := fun i H => ∃ xs ys x y, SqK k1 K H a xs ∧ SqK k2 K H b ys ∧ xs[i]? = some x ∧ ys[i]? = some y,
    yld := fun i H v H' => ∃ T x y, v = V.ref T ∧ H T = none ∧ H' = upd H T (.tup [x, y]) ∧ (∀ xs, SqK k1 K H a xs → xs[i]? = some x) ∧ ∀ ys, SqK k2 K H b ys → ys[i]? = some y,
    stop := fun i H => ∃ xs ys, SqK k1 K H a xs ∧ SqK k2 K H b ys ∧ (xs.length ≤ i ∨ ys.length ≤ i) }
/-- apart from each other -/
structure Apt (z TI TO i1 i2 a b : Addr) : Prop where
  s : ZipSep2 z TI TO i1 i2 [i1, a] [i2, b]
  a1 : a ≠ i1
  b2 : b ≠ i2
def tnM (k1 k2 : Bool) (z TI TO i1 i2 a b : Addr) (i : Nat) (h : Heap) : Prop := IsZip h z TI TO Value.none ∧ IsPair h TI (Value.ref i1) (Value.ref i2) ∧ (∃ x y, IsPair h TO x y) ∧ ItK k1 h i1 a i ∧ ItK k2 h i2 b i
theorem sq_inj {X : Cx} {k : Bool} {pins : List (Addr × Obj)} {σ : L2.St} {H : Hp} {s : Shared} {a : Addr} {xs ys : List V} (I : Inv X pins σ H s) (h1 : SqK k X.K H a xs) (h2 : SqK k X.K H a ys) : xs = ys := by
  cases k with
  | true => exact I.tuple_inj (a := a) h1 h2
  | false => exact I.list_inj (a := a) h1 h2
theorem turn_zipM {P : Program} {w : World} {K : PySem.W.Frag} {elts : List Expr} {kk : Nat} {tpos : Pos} {k1 k2 : Bool} {z TI TO i1 i2 a b : Addr} (ap : Apt z TI TO i1 i2 a b) : Turn P w K (.Tuple elts kk tpos) (Itm K k1 k2 a b) [z, TI, TO, i1, i2] z (tnM k1 k2 z TI TO i1 i2 a b) where
  mem := by simp
  obj := by
    intro i h st c hc
    obtain ⟨h1, h2, ⟨x, y, h3⟩, h4, h5⟩ := st
    have itk : ∀ (k : Bool) it a, ItK k h it a i → ∃ o, h.get? it = some o ∧ ∀ v : Option Value, o.data ≠ Data.cell v := fun k it a s => by
      cases k with
      | true =>
        obtain ⟨o, q1, _, q2⟩ : h.IsTupleIter it a i := s
        exact ⟨o, q1, fun v e => by rw [q2] at e; cases e⟩
      | false =>
        obtain ⟨o, q1, _, q2⟩ : h.IsListIter it a i := s
        exact ⟨o, q1, fun v e => by rw [q2] at e; cases e⟩
    simp only [List.mem_cons, List.not_mem_nil, or_false] at hc
    rcases hc with rfl | rfl | rfl | rfl | rfl
    · exact ⟨_, h1, fun v e => by cases e⟩
    · exact ⟨_, h2, fun v e => by cases e⟩
    · exact ⟨_, h3, fun v e => by cases e⟩
    · exact itk _ _ _ h4
    · exact itk _ _ _ h5
  keep := by
    intro i h h' st q
    obtain ⟨h1, h2, ⟨x, y, h3⟩, h4, h5⟩ := st
    exact ⟨q z (by simp) _ h1, q TI (by simp) _ h2, ⟨x, y, q TO (by simp) _ h3⟩, h4.at (q i1 (by simp)), h5.at (q i2 (by simp))⟩
  item := by
    intro X hP hw hK hc i pins s σ H E I hf st go
    subst hP hw hK
    obtain ⟨xs, ys, x, y, q1, q2, hx, hy⟩ := go
    obtain ⟨its1, r1, p1, z1⟩ := inv_sq I q1
    obtain ⟨its2, r2, p2, z2⟩ := inv_sq I q2
    have hh := I.ok.hd hc
    have Wk := WalksT.zipD2 (A := X.A) ap.s (drawsK (prog := X.prog) (w := X.w) (A := X.A.in1) hh k1 i1 a ap.a1 its1.toArray) (drawsK (prog := X.prog) (w := X.w) (A := X.A.in1) hh k2 i2 b ap.b2 its2.toArray)
    obtain ⟨u1, hu1, ru1⟩ := r1.get hx
    obtain ⟨u2, hu2, ru2⟩ := r2.get hy
    have l1 : i < its1.length := (List.getElem?_eq_some_iff.mp hu1).1
    have l2 : i < its2.length := (List.getElem?_eq_some_iff.mp hu2).1
    refine Wk.item i s _ E (by simp; omega) ⟨st.1, st.2.1, st.2.2.1, ⟨st.2.2.2.1, p1⟩, ⟨st.2.2.2.2, p2⟩⟩ fun T vals h' tk pt le ht mid keep => ?_
    obtain ⟨v1, v2, e1, e2, rfl⟩ := pt
    have w1 : v1 = u1 := by
      have : its1.toArray[i]? = its1[i]? := by simp
      rw [this, hu1] at e1
      exact (Option.some.inj e1).symm
    have w2 : v2 = u2 := by
      have : its2.toArray[i]? = its2[i]? := by simp
      rw [this, hu2] at e2
      exact (Option.some.inj e2).symm
    subst w1 w2
    refine ⟨_, rfl, Wk.go elts kk tpos i T _ _ E mid fun h'' st'' keep2 => ?_⟩
    obtain ⟨oT, gT, cT, n, dT⟩ := ht
    have gT2 := keep2 T oT (Wk.apart _ _ _ mid) gT
    have new : ObjOk X.prog X.w (upd H T (.tup [x, y])) h'' T (.tup [x, y]) := ⟨by show 2 ≤ sizeLine; decide, [v1, v2], .cons ru1 (.cons ru2 .nil), ⟨oT, gT2, cT, n, dT⟩⟩
    have I1 : Inv X pins σ (upd H T (.tup [x, y])) { s with heap := h'', toks := tk } :=
      I.turnedNew (ch := [z, TO, i1, i2]) (fun c o hc q => keep2 c o hc (keep c o hc q)) (fun c hc => hf c (by
        simp only [List.mem_cons, List.not_mem_nil, or_false] at hc ⊢
        rcases hc with h | h | h | h
        · exact .inl h
        · exact .inr (.inr (.inl h))
        · exact .inr (.inr (.inr (.inl h)))
        · exact .inr (.inr (.inr (.inr h))))) le new
    refine ⟨.ref T, _, I1, rfl, ⟨T, x, y, rfl, I.hok.fresh le, rfl, fun zs hz => by rw [sq_inj I hz q1]; exact hx, fun zs hz => by rw [sq_inj I hz q2]; exact hy⟩, ⟨st''.1, st''.2.1, st''.2.2.1, st''.2.2.2.1.1, st''.2.2.2.2.1⟩, fun c hc => ?_⟩
    have lt : c < s.heap.objs.size := by
      have itk : ∀ (k : Bool) it a, ItK k s.heap it a i → it < s.heap.objs.size := fun k it a s' => by
        cases k with
        | true =>
          obtain ⟨o, q1, _⟩ : s.heap.IsTupleIter it a i := s'
          exact get_lt q1
        | false =>
          obtain ⟨o, q1, _⟩ : s.heap.IsListIter it a i := s'
          exact get_lt q1
      obtain ⟨h1, h2, ⟨_, _, h3⟩, h4, h5⟩ := st
      simp only [List.mem_cons, List.not_mem_nil, or_false] at hc
      rcases hc with rfl | rfl | rfl | rfl | rfl
      · exact get_lt h1
      · exact get_lt h2
      · exact get_lt h3
      · exact itk _ _ _ h4
      · exact itk _ _ _ h5
    rw [upd_ne (Nat.ne_of_lt (Nat.lt_of_lt_of_le lt le))]
    exact (hf c hc).1
  done := by
    intro X hP hw hK hc i pins s σ H E I hf st hg
    subst hP hw hK
    obtain ⟨xs, ys, q1, q2, hle⟩ := hg
    obtain ⟨its1, r1, p1, z1⟩ := inv_sq I q1
    obtain ⟨its2, r2, p2, z2⟩ := inv_sq I q2
    have hh := I.ok.hd hc
    have n1 := r1.length
    have n2 := r2.length
    have fin : ∀ (h' : Heap) (tk : Nat), (∀ (c : Addr) (o : Obj), c ≠ z → c ≠ TO → c ≠ i1 → c ≠ i2 → s.heap.get? c = some o → h'.get? c = some o) → (none : Option Value) = none ∧ Inv X pins σ H { s with heap := h', toks := tk } := fun h' tk q => ⟨rfl, I.turnedL (ch := [z, TO, i1, i2]) (fun c o hc e => by
        simp only [List.mem_cons, List.not_mem_nil, or_false, not_or] at hc
        exact q c o hc.1 hc.2.1 hc.2.2.1 hc.2.2.2 e) (fun c hc => hf c (by
        simp only [List.mem_cons, List.not_mem_nil, or_false] at hc ⊢
        rcases hc with h | h | h | h
        · exact .inl h
        · exact .inr (.inr (.inl h))
        · exact .inr (.inr (.inr (.inl h)))
        · exact .inr (.inr (.inr (.inr h)))))⟩
    obtain ⟨x0, y0, h3⟩ := st.2.2.1
    have de1 := fun h => drawsEnd (prog := X.prog) (w := X.w) (A := X.A.in1) hh k1 i1 a ap.a1 its1.toArray i h
    have de2 := fun h => drawsEnd (prog := X.prog) (w := X.w) (A := X.A.in1) hh k2 i2 b ap.b2 its2.toArray i h
    have dk1 := drawsK (prog := X.prog) (w := X.w) (A := X.A.in1) hh k1 i1 a ap.a1 its1.toArray
    have dk2 := drawsK (prog := X.prog) (w := X.w) (A := X.A.in1) hh k2 i2 b ap.b2 its2.toArray
    have s1 : its1.toArray.size = its1.length := by simp
    have s2 : its2.toArray.size = its2.length := by simp
    by_cases c1 : its1.length ≤ i
    · by_cases c2 : its2.length ≤ i
      · exact wpAny_pyNext_zipD2_end (A := X.A) ap.s (de1 (by omega)) (de2 (by omega)) st.1 st.2.1 h3 ⟨rfl, st.2.2.2.1, p1⟩ ⟨rfl, st.2.2.2.2, p2⟩ (Nat.le_refl _) (Nat.le_refl _) (.inl rfl) fin
      · exact wpAny_pyNext_zipD2_end (A := X.A) ap.s (de1 (by omega)) dk2 st.1 st.2.1 h3 ⟨rfl, st.2.2.2.1, p1⟩ ⟨st.2.2.2.2, p2⟩ (Nat.le_refl _) (by omega) (.inl rfl) fin
    · have c2 : its2.length ≤ i := by omega
      exact wpAny_pyNext_zipD2_end (A := X.A) ap.s dk1 (de2 (by omega)) st.1 st.2.1 h3 ⟨st.2.2.2.1, p1⟩ ⟨rfl, st.2.2.2.2, p2⟩ (by omega) (Nat.le_refl _) (.inr rfl) fin
  self := fun A i s Q E st h => wpAny_pyIter_zip st.1 h
def iZipK (K : PySem.W.Frag) (ta : TA) : TI := fun σ H R => ta σ H fun vs H1 => ∃ a b xs ys k1 k2, vs = [V.ref a, V.ref b] ∧ SqK k1 K H1 a xs ∧ SqK k2 K H1 b ys ∧ R (Itm K k1 k2 a b) H1
theorem sk_lt {k : Bool} {h : Heap} {a : Addr} {its : Array Value} (s : SK k h a its) : a < h.objs.size := by
  cases k with
  | true =>
    obtain ⟨o, q, _⟩ : h.IsTuple a its := s
    exact get_lt q
  | false =>
    obtain ⟨o, q, _⟩ : h.IsList a its := s
    exact get_lt q
theorem off2 {x y z : Nat} (h1 : x ≠ y) (h2 : x ≠ z) : ¬ x ∈ [y, z] := fun h => by
  rcases List.mem_cons.mp h with h | h
  · exact h1 h
  · exact h2 (List.mem_singleton.mp h)
theorem apt_nat {n a b : Nat} (ha : a < n) (hb : b < n) : (n + 2 ≠ n + 4 ∧ n + 3 ≠ n + 4 ∧ n + 2 ≠ n + 3 ∧ n + 2 ≠ n ∧ n + 2 ≠ n + 1) ∧ (n + 4 ≠ n ∧ n + 4 ≠ a ∧ n + 3 ≠ n ∧ n + 3 ≠ a) ∧ (n + 4 ≠ n + 1 ∧ n + 4 ≠ b ∧ n + 3 ≠ n + 1 ∧ n + 3 ≠ b) ∧ n ≠ n + 1 ∧ n ≠ b ∧ n + 1 ≠ n ∧ n + 1 ≠ a ∧ a ≠ n ∧ b ≠ n + 1 := by omega
theorem apt_of {n a b : Nat} (ha : a < n) (hb : b < n) : Apt (n + 4) (n + 2) (n + 3) n (n + 1) a b := by
  obtain ⟨⟨c1, c2, c3, c4, c5⟩, ⟨d1, d2, d3, d4⟩, ⟨e1, e2, e3, e4⟩, f1, f2, f3, f4, f5, f6⟩ := apt_nat ha hb
  exact ⟨⟨c1, c2, c3, c4, by simp, off2 d1 d2, off2 d3 d4, c5, by simp, off2 e1 e2, off2 e3 e4, off2 f1 f2, off2 f3 f4⟩, f5, f6⟩
theorem pi_zipM {X : Cx} {e e2 : Expr} {ta : TA} {p pos tpos : Pos} {elts : List Expr} {kk : Nat} (hg : Gl X "zip") (hm : X.mg "zip" = none) (ha : PA X [e, e2] ta) (hs : starEach [e, e2] X.env = (false, eval e X.env) :: starEach [e2] X.env := by rfl)
    (hpl : (backTo pos (starEach [e2] X.env)).any (·.1) = false := by rfl) : PI X (.Tuple elts kk tpos) (.Call (.Name "zip" p) [e, e2] [] pos) (iZipK X.K ta) := by
  refine ⟨fun pins s σ H R I h => Call_ (ld_blt I hg hm PyProof.Rows.boot_zip (PyProof.Rows.callWith_type1 (thn (ha.run pos pins s σ H _ I h) fun us s1 ⟨vs, H1, I1, r1, a, b, xs, ys, k1, k2, ex, q1, q2, q⟩ => ?_) hs hpl))⟩
  subst ex
  cases r1 with
  | cons r rr =>
    cases rr with
    | cons r' rr =>
      cases rr
      cases r
      cases r'
      obtain ⟨its1, v1, p1, z1⟩ := inv_sq I1 q1
      obtain ⟨its2, v2, p2, z2⟩ := inv_sq I1 q2
      obtain ⟨o1, b1, i1⟩ := beginsK k1 a its1.toArray
      obtain ⟨o2, b2, i2⟩ := beginsK k2 b its2.toArray
      refine zip_begins2 b1 b2 p1 p2 fun h' hz hTI hTO g1 g2 hsz hk => ?_
      have I2 : Inv X pins σ H1 { s1 with heap := h' } := I1.kept (t' := s1.toks) hk
      refine wpAny_pyIter_zip hz ⟨_, _, _, _, H1, rfl, I2, turn_zipM (k1 := k1) (k2 := k2) (apt_of (sk_lt p1) (sk_lt p2)), ⟨hz, hTI, ⟨_, _, hTO⟩, i1 h' _ g1, i2 h' _ g2⟩, fun c hc => ?_, q⟩
      have le : s1.heap.objs.size ≤ c := by
        simp only [List.mem_cons, List.not_mem_nil, or_false] at hc
        rcases hc with h | h | h | h | h <;> rw [h]
        · exact Nat.le_add_right _ _
        · exact Nat.le_add_right _ _
        · exact Nat.le_add_right _ _
        · exact Nat.le_refl _
        · exact Nat.le_add_right _ _
      exact I1.fpOk le (I1.hok.fresh le)
theorem yl_zM {K : PySem.W.Frag} {φ : List Addr} {H : Hp} {a b : Addr} {k1 k2 : Bool} {xs ys : List D} {src : Option (Nat × List D)}
    (g : ∀ φ' H' s', Fu K φ φ' H H' → So K φ' H' s' → (∀ n zs, src = some (n, zs) → lstAt s' n = some zs) → ∃ vs us, SqK k1 K H' a vs ∧ SqK k2 K H' b us ∧ Dts K φ' H' vs xs ∧ Dts K φ' H' us ys) : Yl K φ H (Itm K k1 k2 a b) ⟨zipD xs ys, src⟩ := fun φ' H' s' f so st i => by
  obtain ⟨vs, us, q1, q2, r1, r2⟩ := g φ' H' s' f so st
  refine ⟨fun d e => ?_, fun h => ⟨vs, us, q1, q2, by
    have l1 := r1.length
    have l2 := r2.length
    rw [zipD_len] at h
    rcases Nat.le_total xs.length ys.length with z | z
    · rw [Nat.min_eq_left z] at h
      exact .inl (by rw [l1]; exact h)
    · rw [Nat.min_eq_right z] at h
      exact .inr (by rw [l2]; exact h)⟩⟩
  obtain ⟨x, y, hx, hy, rfl⟩ := zipD_get e
  obtain ⟨v, hv, rv⟩ := r1.get hx
  obtain ⟨u, hu, ru⟩ := r2.get hy
  refine ⟨⟨vs, us, v, u, q1, q2, hv, hu⟩, fun w H'' y => ?_⟩
  obtain ⟨T, z1, z2, rfl, hT, rfl, y1, y2⟩ := y
  have e1 := y1 vs q1
  have e2 := y2 us q2
  rw [hv] at e1
  rw [hu] at e2
  cases e1
  cases e2
  have fT : Fu K φ' φ' H' (upd H' T (.tup [v, u])) := fu_new hT
  exact ⟨fT, so.new hT, .tup (SqT.of upd_same) (.cons (rv.fu fT) (.cons (ru.fu fT) .nil))⟩
/-- zip(a, b): two tuples, or a tuple and a list -/
def iZipM (da : DA) : DI := fun Δ => mbind (da Δ) fun xs s => match xs with
  | [.tup x, .tup y] => some (.ok ⟨zipD x y, none⟩, s)
  | [.obj m, .tup y] => match lstAt s m with
    | some x => some (.ok ⟨zipD x y, some (m, x)⟩, s)
    | none => none
  | [.tup x, .obj m] => match lstAt s m with
    | some y => some (.ok ⟨zipD x y, some (m, y)⟩, s)
    | none => none
  | _ => none
theorem di_zipM {X : Cx} {W : WX} {elts : List Expr} {kk : Nat} {tpos : Pos} {e e2 : Expr} {da : DA} {p pos : Pos} (hg : Gl X "zip") (hm : X.mg "zip" = none) (ha : DAs X W [e, e2] da) (hs : starEach [e, e2] X.env = (false, eval e X.env) :: starEach [e2] X.env := by rfl)
    (hs2 : ((backTo pos (starEach [e2] X.env)).any fun x => x.fst) = false := by rfl) : DIt X W (.Tuple elts kk tpos) (.Call (.Name "zip" p) [e, e2] [] pos) (iZipM da) :=
  pi_imp (pi_zipM hg hm ha hs hs2) fun σ H R ⟨Δ, φ, s, hσ, hs, h⟩ => upA_bind hσ hs h fun φ1 v H1 x s1 f1 hσ1 hs1 rx h1 => by
    split at h1
    · obtain ⟨u, w, rfl, r, r'⟩ := dts2 rx
      obtain ⟨a, vs, rfl, q1, t1⟩ := r.tupI
      obtain ⟨b, us, rfl, q2, t2⟩ := r'.tupI
      exact ⟨a, b, vs, us, true, true, rfl, q1, q2, h1.ok hs1 (yl_zM (k1 := true) (k2 := true) fun φ' H' s' f so st => ⟨vs, us, f.go _ _ q1, f.go _ _ q2, t1.fu f, t2.fu f⟩)⟩
    · obtain ⟨u, w, rfl, r, r'⟩ := dts2 rx
      cases r
      rename_i a hga
      obtain ⟨b, us, rfl, q2, t2⟩ := r'.tupI
      split at h1
      · rename_i xs e
        obtain ⟨vs, k, r⟩ := hs1.lst (lstAt_eq e) hga
        exact ⟨a, b, vs, us, false, true, rfl, SqL.of k, q2, h1.ok hs1 (yl_zM (k1 := false) (k2 := true) fun φ' H' s' f so st => by
          obtain ⟨vs', k', r'⟩ := so.lst (lstAt_eq (st _ _ rfl)) (f.get hga)
          exact ⟨vs', us, SqL.of k', f.go _ _ q2, r', t2.fu f⟩)⟩
      · exact h1.elim
    · obtain ⟨u, w, rfl, r, r'⟩ := dts2 rx
      obtain ⟨a, vs, rfl, q1, t1⟩ := r.tupI
      cases r'
      rename_i b hgb
      split at h1
      · rename_i ys e
        obtain ⟨us, k, r⟩ := hs1.lst (lstAt_eq e) hgb
        exact ⟨a, b, vs, us, true, false, rfl, q1, SqL.of k, h1.ok hs1 (yl_zM (k1 := true) (k2 := false) fun φ' H' s' f so st => by
          obtain ⟨us', k', r'⟩ := so.lst (lstAt_eq (st _ _ rfl)) (f.get hgb)
          exact ⟨vs, us', f.go _ _ q1, SqL.of k', t1.fu f, r'⟩)⟩
      · exact h1.elim
    · exact h1.elim
end DV

set_option maxHeartbeats 2000000
namespace DV
open PySem L2 PyProof.Rows
/-! ### sorted(d), a dict whose keys are ints, fewer than 64 -/
def sortI (l : List Int) : List Int := l.mergeSort fun a b => decide (a ≤ b)
theorem sortI_perm (l : List Int) : (sortI l).Perm l := List.mergeSort_perm _ _
theorem sortI_le (l : List Int) : (sortI l).Pairwise (· ≤ ·) := by
  have h := List.pairwise_mergeSort (le := fun a b : Int => decide (a ≤ b)) (fun a b c h1 h2 => by simp at h1 h2 ⊢; omega) (fun a b => by simp; omega) l
  exact h.imp fun z => of_decide_eq_true z
theorem sorted_one {l r : List Int} (hp : l.Perm r) (h1 : l.Pairwise (· ≤ ·)) (h2 : r.Pairwise (· ≤ ·)) : l = r :=
  hp.eq_of_pairwise (le := (· ≤ ·)) (fun a b _ _ u v => by omega) h1 h2
def keyI : Key × D → Option Int
  | (.inl i, _) => some i
  | _ => none
theorem keysI : ∀ {kvs : List (Key × D)} {ks : List Int}, omap keyI kvs = some ks → kvs.map (·.1) = ks.map Sum.inl
  | [], _, e => by cases e; rfl
  | kv :: r, _, e => by
    simp only [omap] at e
    split at e
    · rename_i k kr e1 e2
      cases e
      obtain ⟨k1, d⟩ := kv
      cases k1 with
      | inl i =>
        cases e1
        simp [keysI e2]
      | inr x => cases e1
    · cases e
def fSortedK : OpN := fun xs s => match xs with
  | [.obj n] => match dctAt s n with
    | some kvs => match omap keyI kvs with
      | some ks => if ks.length < 64 then some (.obj s.length, s ++ [.lst ((sortI ks).map D.int)]) else none
      | none => none
    | none => none
  | _ => none
theorem ints_dts {K : PySem.W.Frag} {φ : List Addr} {H : Hp} : ∀ l : List Int, Dts K φ H (l.map V.int) (l.map D.int)
  | [] => .nil
  | i :: r => .cons (.int i) (ints_dts r)
theorem dc_sortK {X : Cx} (hc : X.calm = true) : DCall X (.builtin "sorted") fSortedK := ⟨_, call_sortedDI hc, fun φ H s vs ds Q so rx p => by
  unfold fSortedK at p
  split at p
  · obtain ⟨u, rfl, r⟩ := dts1 rx
    cases r
    rename_i n a ha
    split at p
    · rename_i kvs e
      split at p
      · rename_i ks ek
        split at p
        · rename_i z
          obtain ⟨kv, k1, r0⟩ := so.dct e ha
          refine ⟨a, kv, ks, rfl, .inl k1, r0.keys.trans (keysI ek), z, fun ys q hp hs hq => ?_⟩
          have e2 : ys = sortI ks := sorted_one (hp.trans (sortI_perm ks).symm) hs (sortI_le ks)
          subst e2
          exact p.newL so hq (ints_dts _)
        · exact p.elim
      · exact p.elim
    · exact p.elim
  · exact p.elim⟩
end DV

set_option maxHeartbeats 4000000
namespace DV
open PySem PySem.Spec L2 PyProof.Rows
/-! ### sorted(set(xs)), xs a list of ints, fewer than 64 of them -/
/-- the set that set() makes -/
abbrev emS (w : World) : Obj := { cls := .type "set", dict := none, data := .set #[] 0 (.fresh 0 0 (!w.params.followText "set-order")) }
section
variable {P : Program} {w : World} {A : Around} {E : Value → Shared → Prop} {s : Shared}
theorem set_of_ints {l : Addr} {its : Array Value} (ns : List Int) {Q : Value → Shared → Prop} (nh : A.handled = none) (isl : s.heap.IsList l its) (ia : IntsAre its.toList ns) (few : ns.length + 1 < scanBound)
    (fin : ∀ (g : Heap) (tk c : Nat), SetR w g s.heap.objs.size (fun j => decide (j ∈ ns)) c → c ≤ ns.length → (∀ b o, s.heap.get? b = some o → g.get? b = some o) → Q (.ref s.heap.objs.size) { s with heap := g, toks := tk }) :
    wpAny (model P w) A (call (.type "set") [.ref l]) Q E s := by
  have sz : its.size = ns.length := by
    have z := IntsAre.length ia
    rwa [Array.length_toList] at z
  obtain ⟨mro1, mro2, mro3⟩ := F.called_set.mro
  have made1 := F.called_set.made
  have sub1 := F.called_set.sub
  refine wpAny_call (A := A) (codeAny_of_tree ?_)
  show wpAny (model P w) _ (callAny (.type "set") _) _ _ _
  refine wpAny_pure (And.intro (Code.quiet_builtin _ (by decide +kernel)) (codeAny_builtin F.entry_type_call ?_))
  rw [Around.under_plain (weight_type_call_type "set" [Value.ref l] []) rfl]
  have nt1 := F.called_set.notType
  have cc1 := F.called_set.canCreate
  have tc1 := F.typeCall_set_1 (.ref l)
  repeat (any_goals (first | assumption | (wp_step)))
  refine codeAny_mono (code_set_led1 (.ref l) (E := E) (Q₁ := fun ob sh => ob = .ref s.heap.objs.size ∧ sh = { s with heap := s.heap.push (emS w) }) ⟨rfl, rfl⟩) fun res sh1 hres => ?_
  cases res with
  | error x => exact hres
  | ok flow =>
    cases flow with
    | ret ob =>
      obtain ⟨rfl, rfl⟩ := hres
      have gS : (s.heap.push (emS w)).get? s.heap.objs.size = some (emS w) := Heap.get?_push_size _ rfl
      have gT : Shared.TypeIs { s with heap := s.heap.push (emS w) } (.ref s.heap.objs.size) "set" := ⟨_, gS, rfl⟩
      have look1 := F.called_set.init.lookup
      have bind1 := F.called_set.init.bind (.ref s.heap.objs.size)
      repeat (any_goals (first | assumption | (wp_step)))
      refine codeAny_mono (codeAny_call_builtin (R := wants (fun x sh2 => x = .none ∧ ∃ g tk c, sh2 = { s with heap := g, toks := tk } ∧ SetR w g s.heap.objs.size (fun j => decide (j ∈ ns)) c ∧ c ≤ ns.length ∧
        (∀ b o, s.heap.get? b = some o → g.get? b = some o)) E) F.called_set.init.plain F.entry_set_init (check_set_init_1 gT ?_)) fun res2 sh2 hres2 => ?_
      · obtain ⟨lo, lg, lc, ln, ld⟩ := isl
        obtain ⟨lcls, ldict, ldata, lslots⟩ := lo
        simp only at lc ld
        subst lc ld
        have lg2 : (s.heap.push (emS w)).get? l = some { cls := .type "list", dict := ldict, data := .seq its ln, slots := lslots } := Heap.get?_push_of_some _ lg
        have sb1 := F.sub_list_set
        have sb2 := F.sub_list_frozenset
        have ned : (Value.type "list" == Value.type "dict") = false := by
          decide
        have isl2 : (s.heap.push (emS w)).IsList l its := ⟨_, lg2, rfl, ln, rfl⟩
        unfold Builtin.«set.__init__» noKeywords Builtin.Frozenset.updateFrom
        generalize eP : pyIter = PI
        wp_walk
        subst eP
        refine wpAny_pyIter_list isl2 ?_
        refine wpAny_bind (wpAny_runValue (A := A.in1.in1) ?_)
        have ltS : l < s.heap.objs.size := Heap.lt_size lg
        have nh3 : A.in1.in1.in1.handled = none := by
          simp [nh]
        have szP : (s.heap.push (emS w)).objs.size = s.heap.objs.size + 1 := Heap.size_push ..
        have neI : l ≠ (s.heap.push (emS w)).objs.size := by
          rw [szP]
          exact Nat.ne_of_lt (Nat.lt_succ_of_lt ltS)
        have ninS : s.heap.objs.size ∉ [(s.heap.push (emS w)).objs.size, l] := by
          rw [szP]
          simp only [List.mem_cons, List.not_mem_nil, or_false, not_or]
          exact ⟨Nat.ne_of_lt (Nat.lt_succ_self _), Nat.ne_of_gt ltS⟩
        have vals : ∀ (i : Nat) (v : Value), its[i]? = some v → ∃ k t, ns[i]? = some k ∧ v = .int k t := fun i v hv => by
          have lt : i < ns.length := by
            rw [← sz]
            exact (Array.getElem?_eq_some_iff.mp hv).1
          obtain ⟨t, e⟩ := PyProof.Rows.IntsAre.int_at ia i v (by rw [Array.getElem?_toList]; exact hv)
          have e2 : ns.getD i 0 = ns[i] := by rw [List.getD_eq_getElem?_getD, List.getElem?_eq_getElem lt]; rfl
          exact ⟨ns[i], t, List.getElem?_eq_getElem lt, by rw [e, e2]⟩
        have walkL := (Walks.list (prog := P) (w := w) nh3 (s.heap.push (emS w)).objs.size l neI its).toS
        refine set_update_ints walkL s.heap.objs.size ninS ns sz few vals (its.size - 0) 0 _ (by omega) (Nat.zero_le _) ⟨⟨_, Heap.get?_push_size _ rfl, rfl, rfl⟩, (isl2.push _)⟩ ⟨0, Nat.le_refl 0, setR_new_at (Heap.get?_push_of_some _ gS)⟩ fun s' c' mv lec gR => ?_
        obtain ⟨g, g2, d', tk', os'⟩ := s'
        have e1 : g2 = s.gens := mv.gens
        have e2 : d' = s.drawn := mv.drawn
        have e3 : os' = s.os := mv.os
        subst e1 e2 e3
        show wpAny (model P w) _ _ _ _ _
        refine wpAny_pure ?_
        show wpAny (model P w) _ (ret Value.none) _ _ _
        rw [sz] at lec
        refine wpAny_pure ⟨rfl, g, tk', c', rfl, gR, lec, fun b o e => ?_⟩
        have lb : b < s.heap.objs.size := Heap.lt_size e
        refine mv.heap b o ?_ (Heap.get?_push_of_some _ (Heap.get?_push_of_some _ e))
        simp only [List.mem_cons, List.not_mem_nil, or_false, not_or, szP]
        exact ⟨Nat.ne_of_lt lb, Nat.ne_of_lt (Nat.lt_succ_of_lt lb)⟩
      · cases res2 with
        | error x => exact hres2
        | ok flow2 =>
          cases flow2 with
          | ret x =>
            obtain ⟨rfl, g, tk, c', rfl, gR, lec, kp⟩ := hres2
            repeat (any_goals (first | assumption | (wp_step)))
            exact fin _ _ _ gR lec kp
          | _ => exact hres2.elim
    | _ => exact hres.elim
end
end DV

set_option maxHeartbeats 2000000
namespace DV
open PySem L2 PyProof.Rows
/-! ### sorted(set(xs)) -/
def insU (ks : List Int) (i : Int) : List Int := if i ∈ ks then ks else ks ++ [i]
/-- each once, in the order met -/
def uniq (l : List Int) : List Int := l.foldl insU []
theorem insU_nd (i : Int) {ks : List Int} (h : ks.Nodup) : (insU ks i).Nodup := by
  unfold insU
  split
  · exact h
  · rename_i c
    refine List.nodup_append.mpr ⟨h, by simp, fun a ha b hb e => c ?_⟩
    rw [List.mem_singleton] at hb
    rw [← hb, ← e]
    exact ha
theorem insU_mem (i k : Int) (ks : List Int) : k ∈ insU ks i ↔ k ∈ ks ∨ k = i := by
  unfold insU
  split
  · rename_i c
    exact ⟨.inl, fun h => by
      rcases h with h | rfl
      · exact h
      · exact c⟩
  · simp
theorem uniq_from : ∀ (l ks : List Int), ks.Nodup → (l.foldl insU ks).Nodup ∧ ∀ k, k ∈ l.foldl insU ks ↔ k ∈ ks ∨ k ∈ l
  | [], _, h => ⟨h, fun k => by simp⟩
  | i :: l, ks, h => by
    obtain ⟨h1, h2⟩ := uniq_from l (insU ks i) (insU_nd i h)
    refine ⟨h1, fun k => ?_⟩
    rw [List.foldl_cons, h2, insU_mem, List.mem_cons]
    exact or_assoc
theorem uniq_nd (l : List Int) : (uniq l).Nodup := (uniq_from l [] List.nodup_nil).1
theorem uniq_mem (l : List Int) (k : Int) : k ∈ uniq l ↔ k ∈ l := by
  have h := (uniq_from l [] List.nodup_nil).2 k
  simpa [uniq] using h
/-- strictly ascending -/
def usort (l : List Int) : List Int := sortI (uniq l)
theorem usort_mem (l : List Int) (k : Int) : k ∈ usort l ↔ k ∈ l := (sortI_perm (uniq l)).mem_iff.trans (uniq_mem l k)
theorem usort_lt (l : List Int) : (usort l).Pairwise (· < ·) := by
  have nd : (usort l).Nodup := (sortI_perm (uniq l)).nodup_iff.mpr (uniq_nd l)
  exact ((sortI_le (uniq l)).and nd).imp fun z => by
    obtain ⟨z1, z2⟩ := z
    omega
/-- the only such list -/
theorem usort_one {l m : List Int} (h : m.Pairwise (· < ·)) (hm : ∀ k, k ∈ m ↔ k ∈ l) : m = usort l := by
  have n1 : m.Nodup := h.imp fun z => by omega
  have n2 : (usort l).Nodup := (usort_lt l).imp fun z => by omega
  have p : m.Perm (usort l) := (List.perm_ext_iff_of_nodup n1 n2).mpr fun k => (hm k).trans (usort_mem l k).symm
  exact sorted_one p (h.imp fun z => by omega) ((usort_lt l).imp fun z => by omega)
section
variable {X : Cx} {W : WX}
def rSetI (K : PySem.W.Frag) (w : World) : List V → Hp → VK → Prop := fun vs H Q => ∃ (a : Addr) (ns : List Int), vs = [V.ref a] ∧ SqL K H a (ns.map V.int) ∧ ns.length < 64 ∧
  ∀ (p : Addr) (c : Nat), H p = none → c ≤ ns.length → Q (.ref p) (upd H p (SetO w p (fun j => decide (j ∈ ns)) c))
theorem cr_setI (hc : X.calm = true) : CallR X (.type "set") (rSetI X.K X.w) := by
  intro pins s σ H vs us Q I r h
  obtain ⟨a, ns, rfl, hs, few, q⟩ := h
  obtain ⟨its, rv, hl, _⟩ := I.list hs
  rw [Vals.ref1 r]
  refine set_of_ints ns (I.ok.hd hc) hl.isList (by simpa using ints_of_vals rv) (Nat.lt_of_lt_of_le (show ns.length + 1 < 66 by omega) (by decide)) fun g tk c R lec kp => ?_
  exact ⟨.ref s.heap.objs.size, upd H s.heap.objs.size (SetO X.w s.heap.objs.size (fun j => decide (j ∈ ns)) c), I.laid (t' := tk) kp (Nat.le_refl _) (setO_new R), rfl, q _ c (I.hok.fresh (Nat.le_refl _)) lec⟩
def dSortSet (da : DA) : DX := fun Δ => mbind (da Δ) fun xs s => match xs with
  | [.obj n] => match lstAt s n with
    | some ys => match intsOf ys with
      | some ns => if ns.length < 64 then some (.ok (.obj s.length), s ++ [.lst ((usort ns).map D.int)]) else none
      | none => none
    | none => none
  | _ => none
theorem de_sortSet {e : Expr} {da : DA} {p p2 pos pos2 : Pos} (hc : X.calm = true) (hgs : Gl X "set") (hms : X.mg "set" = none) (hgo : Gl X "sorted") (hmo : X.mg "sorted" = none) (ha : DAs X W [e] da)
    (h1 : starEach [e] X.env = (false, eval e X.env) :: starEach [] X.env := by rfl)
    (h2 : starEach [Expr.Call (.Name "set" p2) [e] [] pos2] X.env = (false, eval (.Call (.Name "set" p2) [e] [] pos2) X.env) :: starEach [] X.env := by rfl) :
    DE X W (.Call (.Name "sorted" p) [.Call (.Name "set" p2) [e] [] pos2] [] pos) (dSortSet da) :=
  pe_imp (pe_callB (cr_sortedSet hc) hgo hmo (by decide +kernel) (pa_cons (pe_callTy (cr_setI hc) hgs hms (by decide +kernel) ha (he := h1) (hpl := rfl)) pa_nil h2) (he := h2) (hpl := rfl)) fun σ H Q ⟨Δ, φ, s, hσ, hs, h⟩ => upA_bind hσ hs h fun φ1 vs H1 xs s1 f1 hσ1 hs1 rx h1 => by
    split at h1
    · obtain ⟨v, rfl, r⟩ := dts1 rx
      cases r
      rename_i n a ha
      split at h1
      · rename_i ys e1
        split at h1
        · rename_i ns e2
          split at h1
          · rename_i few
            obtain ⟨us, k1, d1⟩ := hs1.lst (lstAt_eq e1) ha
            rw [intsOf_eq e2] at d1
            rw [d1.ints] at k1
            refine ⟨a, ns, rfl, SqL.of k1, few, fun q c hq lec => ⟨q, _, c, rfl, upd_same, by omega, fun ms L pw mem len hL => ?_⟩⟩
            have em : ms = usort ns := usort_one pw fun k => by simpa using mem k
            subst em
            have x1 : ExtH H1 (upd H1 q (SetO X.w q (fun j => decide (j ∈ ns)) c)) := fun b u z => by
              rw [upd_ne (fun e => by rw [e, hq] at z; cases z)]
              exact z
            have f2 : Fu X.K φ1 φ1 H1 _ := fuX x1
            have so2 := soX x1 hs1
            exact h1 (φ1 ++ [L]) _ _ (f2.trans (fu_newO hL)) (Dts.newO so2 hL (ints_dts _)) (obj_new so2)
          · exact h1.elim
        · exact h1.elim
      · exact h1.elim
    · exact h1.elim
end
end DV

set_option maxHeartbeats 2000000
namespace DV
open PySem L2 PyProof.Rows
/-! ### [e for x in xs if .. for y in ys if ..] -/
def lc2Run (I : Itd) (g : DGf) (tt : DT) (di1 : DI) (g1 : DGf) (tt1 : DT) (de : DX) (vs1 : List Nat) (n : Nat) : List D → Dn → Sto → Option Sto
  | [], _, s => if I.still s = true then some s else none
  | d :: r, Δ, s => if I.still s = true then (match g d Δ s with
    | some (Δ1, s1) => match tt Δ1 s1 with
      | some (.ok true, s2) => match di1 Δ1 s2 with
        | some (.ok I1, s3) => match lcRun I1 g1 tt1 de n I1.its (wipeD Δ1 vs1) s3 with
          | some s4 => lc2Run I g tt di1 g1 tt1 de vs1 n r Δ s4
          | none => none
        | _ => none
      | some (.ok false, s2) => lc2Run I g tt di1 g1 tt1 de vs1 n r Δ s2
      | _ => none
    | none => none) else none
def dLc2 (vs vs1 : List Nat) (di : DI) (g : DGf) (tt : DT) (di1 : DI) (g1 : DGf) (tt1 : DT) (de : DX) : DX := fun Δ => mbind (di Δ) fun I s => match lc2Run I g tt di1 g1 tt1 de vs1 s.length I.its (wipeD Δ vs) (s ++ [.lst []]) with
  | some s' => some (.ok (.obj s.length), s')
  | none => none
section
variable {K : PySem.W.Frag}
/-- what the second clause's loop asks, from its run -/
theorem lc_inner {vs1 : List Nat} {t1 : TG} {g1 : DGf} {tt1 : DT} {de : DX} {σ2 : L2.St} {Δ1 : Dn} {φ1 : List Addr} {H4 : Hp} {s3 sf : Sto} {I1 : Itd} {J1 : It} {Dd : Addr} {n : Nat} {Nx : Hp → Prop} (ng1 : NgOk K vs1 t1 g1)
    (hσ1 : Sg K φ1 H4 σ2 Δ1) (soD : So K φ1 H4 s3) (gD : φ1[n]? = some Dd) (yl : Yl K φ1 H4 J1 I1) (ef : lcRun I1 g1 tt1 de n I1.its (wipeD Δ1 vs1) s3 = some sf)
    (hend : ∀ ψ H', Fu K φ1 ψ H4 H' → So K ψ H' sf → ψ[n]? = some Dd → Nx H') :
    ∃ W1 : Nat → Nat → Hp → Prop, (∃ m, W1 0 m H4) ∧ ∀ j k H, W1 j k H →
      (J1.stop j H ∧ Nx H) ∨ (J1.go j H ∧ ∃ Nx1 : Hp → Prop, (∀ H', Nx1 H' → ∃ k', k' < k ∧ W1 (j + 1) k' H') ∧ ∀ x H', J1.yld j H x H' → t1 x (wipe σ2 vs1) H' fun σ3 H5 => wipe σ3 vs1 = wipe σ2 vs1 ∧ upT K W0 tt1 σ3 H5 fun b H6 =>
        if b = true then upE K W0 de σ3 H6 fun y H7 => ∃ acc, H7 Dd = some (.lst acc) ∧ acc.length < sizeLine ∧ Nx1 (upd H7 Dd (.lst (acc ++ [y]))) else Nx1 H6) := by
  refine ⟨fun i m H' => m = I1.its.length - i ∧ i ≤ I1.its.length ∧ ∃ ψ s', Fu K φ1 ψ H4 H' ∧ So K ψ H' s' ∧ ψ[n]? = some Dd ∧ lcRun I1 g1 tt1 de n (I1.its.drop i) (wipeD Δ1 vs1) s' = some sf,
    ⟨_, rfl, Nat.zero_le _, _, _, Fu.refl _ _, soD, gD, ef⟩, ?_⟩
  rintro i m H' ⟨rfl, hi, ψ, s', f, so, gd, e⟩
  by_cases hl : i < I1.its.length
  · rw [List.drop_eq_getElem_cons hl] at e
    unfold lcRun at e
    by_cases st : I1.still s' = true
    · rw [if_pos st] at e
      obtain ⟨y1, _⟩ := yl ψ H' s' f so (Itd.still_at st) i
      obtain ⟨go, yld⟩ := y1 _ (List.getElem?_eq_getElem hl)
      refine .inr ⟨go, fun H2 => i + 1 ≤ I1.its.length ∧ ∃ ψ s', Fu K φ1 ψ H4 H2 ∧ So K ψ H2 s' ∧ ψ[n]? = some Dd ∧ lcRun I1 g1 tt1 de n (I1.its.drop (i + 1)) (wipeD Δ1 vs1) s' = some sf, fun H2 z => ⟨_, by omega, rfl, z.1, z.2⟩, fun x H2 y => ?_⟩
      obtain ⟨f2, so2, rx⟩ := yld x H2 y
      have ff := f.trans f2
      cases eg : g1 I1.its[i] (wipeD Δ1 vs1) s' with
      | none => rw [eg] at e; cases e
      | some p =>
        obtain ⟨Δ2, s2⟩ := p
        simp only [eg] at e
        refine ng1 x _ (wipe σ2 vs1) (wipeD Δ1 vs1) ψ H2 s' Δ2 s2 _ rx (wipe_sg (hσ1.fu ff) vs1) eg fun es σ3 w3 hσ3 => ⟨w3.trans wipe_wipe, ?_⟩
        subst es
        cases et : tt1 Δ2 s2 with
        | none => rw [et] at e; cases e
        | some p =>
          obtain ⟨r, s4⟩ := p
          cases r with
          | error _ => simp only [et] at e; cases e
          | ok b =>
            refine ⟨Δ2, ψ, s2, hσ3, so2, ?_⟩
            rw [et]
            intro ψ3 b' H3 f3 so3 eb
            subst eb
            have ff3 := ff.trans f3
            cases b' with
            | false =>
              simp only [et] at e
              exact iteF ⟨hl, ψ3, s4, ff3, so3, f3.get (f2.get gd), e⟩
            | true =>
              simp only [et] at e
              refine iteT ?_
              cases ee : de Δ2 s4 with
              | none => rw [ee] at e; cases e
              | some p =>
                obtain ⟨r, s5⟩ := p
                cases r with
                | error _ => simp only [ee] at e; cases e
                | ok yd =>
                  refine ⟨Δ2, ψ3, s4, hσ3.fu f3, so3, ?_⟩
                  rw [ee]
                  intro ψ4 yv H5 f4 so4 ry
                  simp only [ee] at e
                  have gd4 : ψ4[n]? = some Dd := f4.get (f3.get (f2.get gd))
                  split at e
                  · rename_i acc ea
                    split at e
                    · rename_i hz
                      obtain ⟨ws, k, r⟩ := so4.lst (lstAt_eq ea) gd4
                      have fs : Fu K ψ4 ψ4 H5 (upd H5 Dd (.lst (ws ++ [yv]))) := fu_set so4 gd4
                      refine ⟨ws, k, by rw [r.length]; exact hz, hl, ψ4, _, (ff3.trans f4).trans fs, so4.set (o := .lst (acc ++ [yd])) gd4 ⟨_, upd_same, (r.append (.cons ry .nil)).fu fs⟩, gd4, e⟩
                    · cases e
                  · cases e
    · rw [if_neg st] at e
      cases e
  · have e2 : i = I1.its.length := by omega
    subst e2
    rw [List.drop_length] at e
    unfold lcRun at e
    by_cases st : I1.still s' = true
    · rw [if_pos st] at e
      cases e
      obtain ⟨_, y2⟩ := yl ψ H' _ f so (Itd.still_at st) I1.its.length
      exact .inl ⟨y2 (Nat.le_refl _), hend ψ H' f so gd⟩
    · rw [if_neg st] at e
      cases e
theorem lc2_read {W : WX} {vs vs1 : List Nat} {t t1 : TG} {g g1 : DGf} {di di1 : DI} {tt tt1 : DT} {de : DX} {σ : L2.St} {H : Hp} {Q : VK} (ng : NgOk K vs t g) (ng1 : NgOk K vs1 t1 g1) (h : upE K W (dLc2 vs vs1 di g tt di1 g1 tt1 de) σ H Q) :
    tLc2 (upI K W di) t (upT K W0 tt) (upI K W0 di1) t1 (upT K W0 tt1) (upE K W0 de) vs vs1 σ H Q := by
  obtain ⟨Δ, φ, s, hσ, hs, h⟩ := h
  refine ⟨Δ, φ, s, hσ, hs, Ps.mono (fun φ1 J H1 I s1 z => ?_) (Ps.bind (R := Yl K) h)⟩
  obtain ⟨f1, so1, yl, h1⟩ := z
  have hσ1 := hσ.fu f1
  intro Dd hD
  split at h1
  case h_2 => exact h1.elim
  rename_i sf ef
  have fD : Fu K φ1 (φ1 ++ [Dd]) H1 (upd H1 Dd (.lst [])) := fu_newO hD
  have soD : So K (φ1 ++ [Dd]) (upd H1 Dd (.lst [])) (s1 ++ [.lst []]) := Dts.newO so1 hD .nil
  have gD : (φ1 ++ [Dd])[s1.length]? = some Dd := by rw [so1.len, List.getElem?_append_right (Nat.le_refl _)]; simp
  refine ⟨fun i m H' => m = I.its.length - i ∧ i ≤ I.its.length ∧ ∃ ψ s', Fu K φ1 ψ H1 H' ∧ So K ψ H' s' ∧ ψ[s1.length]? = some Dd ∧ lc2Run I g tt di1 g1 tt1 de vs1 s1.length (I.its.drop i) (wipeD Δ vs) s' = some sf,
    ⟨_, rfl, Nat.zero_le _, _, _, fD, soD, gD, ef⟩, ?_⟩
  rintro i m H' ⟨rfl, hi, ψ, s', f, so, gd, e⟩
  by_cases hl : i < I.its.length
  · rw [List.drop_eq_getElem_cons hl] at e
    unfold lc2Run at e
    by_cases st : I.still s' = true
    · rw [if_pos st] at e
      obtain ⟨y1, _⟩ := yl ψ H' s' f so (Itd.still_at st) i
      obtain ⟨go, yld⟩ := y1 _ (List.getElem?_eq_getElem hl)
      refine .inr ⟨go, fun H2 => i + 1 ≤ I.its.length ∧ ∃ ψ s', Fu K φ1 ψ H1 H2 ∧ So K ψ H2 s' ∧ ψ[s1.length]? = some Dd ∧ lc2Run I g tt di1 g1 tt1 de vs1 s1.length (I.its.drop (i + 1)) (wipeD Δ vs) s' = some sf, fun H2 z => ⟨_, by omega, rfl, z.1, z.2⟩, fun x H2 y => ?_⟩
      obtain ⟨f2, so2, rx⟩ := yld x H2 y
      have ff := f.trans f2
      cases eg : g I.its[i] (wipeD Δ vs) s' with
      | none => rw [eg] at e; cases e
      | some p =>
        obtain ⟨Δ1, s2⟩ := p
        simp only [eg] at e
        refine ng x _ (wipe σ vs) (wipeD Δ vs) ψ H2 s' Δ1 s2 _ rx (wipe_sg (hσ1.fu ff) vs) eg fun es σ2 w2 hσ2 => ⟨w2.trans wipe_wipe, ?_⟩
        subst es
        cases et : tt Δ1 s2 with
        | none => rw [et] at e; cases e
        | some p =>
          obtain ⟨r, s3⟩ := p
          cases r with
          | error _ => simp only [et] at e; cases e
          | ok b =>
            refine ⟨Δ1, ψ, s2, hσ2, so2, ?_⟩
            rw [et]
            intro ψ3 b' H3 f3 so3 eb
            subst eb
            have ff3 := ff.trans f3
            cases b' with
            | false =>
              simp only [et] at e
              exact iteF ⟨hl, ψ3, s3, ff3, so3, f3.get (f2.get gd), e⟩
            | true =>
              simp only [et] at e
              refine iteT ?_
              cases ei : di1 Δ1 s3 with
              | none => rw [ei] at e; cases e
              | some p =>
                obtain ⟨r, s4⟩ := p
                cases r with
                | error _ => simp only [ei] at e; cases e
                | ok I1 =>
                  refine ⟨Δ1, ψ3, s3, hσ2.fu f3, so3, ?_⟩
                  rw [ei]
                  intro ψ4 J1 H4 f4 so4 yl1
                  simp only [ei] at e
                  have gd4 : ψ4[s1.length]? = some Dd := f4.get (f3.get (f2.get gd))
                  cases er : lcRun I1 g1 tt1 de s1.length I1.its (wipeD Δ1 vs1) s4 with
                  | none => rw [er] at e; cases e
                  | some s5 =>
                    simp only [er] at e
                    exact lc_inner ng1 ((hσ2.fu f3).fu f4) so4 gd4 yl1 er fun ψ5 H5 f5 so5 gd5 => ⟨hl, ψ5, s5, (ff3.trans f4).trans f5, so5, gd5, e⟩
    · rw [if_neg st] at e
      cases e
  · have e2 : i = I.its.length := by omega
    subst e2
    rw [List.drop_length] at e
    unfold lc2Run at e
    by_cases st : I.still s' = true
    · rw [if_pos st] at e
      cases e
      obtain ⟨_, y2⟩ := yl ψ H' _ f so (Itd.still_at st) I.its.length
      exact .inl ⟨y2 (Nat.le_refl _), h1 ψ _ H' f so (.obj gd)⟩
    · rw [if_neg st] at e
      cases e
end
section
variable {X : Cx} {W : WX}
theorem de_lc2 {elt tg iter tg1 iter1 : Expr} {ifs ifs1 : List Expr} {scope : Scope} {own : List (Str × Nat)} {vs1 : List Nat} {pos : Pos} {di di1 : DI} {t t1 : TG} {g g1 : DGf} {tt tt1 : DT} {de : DX} (hc : X.calm = true) (hN : X.N.Nodup) (hi : DIt X W tg iter di) (ok : BlkOk X.N X.env.scope scope own)
    (hv : ∀ i ∈ vs1, i ∈ own.map (·.2)) (ng : NgOk X.K (own.map (·.2)) t g) (ng1 : NgOk X.K vs1 t1 g1) (hg : ∀ s H C cl fp, PG (Bk X scope s H C cl fp) tg t) (ht : ∀ s H C cl fp, DTs (Bk X scope s H C cl fp) W0 ifs tt)
    (hi1 : ∀ s H C cl fp, DIt (Bk X scope s H C cl fp) W0 tg1 iter1 di1) (hg1 : ∀ s H C cl fp, PG (Bk X scope s H C cl fp) tg1 t1) (ht1 : ∀ s H C cl fp, DTs (Bk X scope s H C cl fp) W0 ifs1 tt1) (he : ∀ s H C cl fp, DE (Bk X scope s H C cl fp) W0 elt de)
    (hs : ∀ x, foldedSetIterable iter X.env x = pure x := by intro _; rfl) (hs1 : ∀ env x, foldedSetIterable iter1 env x = pure x := by intro _ _; rfl) : DE X W (.ListComp elt [⟨tg, iter, ifs, 0⟩, ⟨tg1, iter1, ifs1, 0⟩] scope pos) (dLc2 (own.map (·.2)) vs1 di g tt di1 g1 tt1 de) :=
  pe_imp (pe_lc2 (tt := upT X.K W0 tt) (tt1 := upT X.K W0 tt1) (wi1 := upI X.K W0 di1) (te := upE X.K W0 de) hc hN hi ok hv hg ht hi1 hg1 ht1 he hs hs1) fun σ H Q h => lc2_read ng ng1 h
end
/-! ### gcd, a module's function -/
section
variable {X : Cx} {W : WX}
theorem de_callF {x : Str} {id : String} {f : OpN} {e : Expr} {es : List Expr} {da : DA} {p pos : Pos} (hc : DCall X (.builtin id) f) (hg : Gl X x) (hm : X.mg x = some (.builtin id)) (ha : DAs X W (e :: es) da)
    (hdb : (x == ("__debug__" : Str)) = false := by decide) (he : starEach (e :: es) X.env = (false, eval e X.env) :: starEach es X.env := by rfl) (hpl : (backTo pos (starEach es X.env)).any (·.1) = false := by rfl) : DE X W (.Call (.Name x p) (e :: es) [] pos) (dCB f da) := by
  obtain ⟨r, h, hr⟩ := hc
  exact pe_imp (pe_callBfun h hg hm ha hdb he hpl) fun σ H Q q => dcb_read hr q
def fGcd : OpN := fun xs s => match xs with
  | [.int a, .int b] => some (.int ((Nat.gcd a.natAbs b.natAbs : Nat) : Int), s)
  | _ => none
theorem dc_gcd : DCall X (.builtin "math.gcd") fGcd := ⟨_, cr_gcd, fun φ H s vs ds Q so rx p => by
  unfold fGcd at p
  split at p
  · rename_i a b
    cases rx with
    | cons r1 rx =>
      cases rx with
      | cons r2 rx =>
        cases rx
        cases r1
        cases r2
        exact ⟨a, b, rfl, p.ok so (.int _)⟩
  · exact p.elim⟩
end
end DV

set_option maxHeartbeats 2000000
namespace DV
open PySem L2 PyProof.Rows
/-! ### list(range(a, b)), list(range(b)) -/
def rgD (i j : Int) : List D := (List.range (j - i).toNat).map fun n => D.int (i + (n : Nat))
def rgOkB (a b : Int) : Bool := decide (-(2 ^ 62) ≤ a) && decide (a < 2 ^ 62) && decide (-(2 ^ 62) ≤ b) && decide (b < 2 ^ 62) && decide ((b - a).toNat ≤ 2 ^ 24)
theorem rgOk_of {a b : Int} (h : rgOkB a b = true) : RgOk a b := by
  unfold rgOkB at h
  simp only [Bool.and_eq_true, decide_eq_true_eq] at h
  exact ⟨h.1.1.1.1, h.1.1.1.2, h.1.1.2, h.1.2, h.2⟩
def dLstRg2 (da db : DX) : DX := fun Δ => mbind (da Δ) fun x => mbind (db Δ) fun y s => match x, y with
  | .int i, .int j => if rgOkB i j = true then some (.ok (.obj s.length), s ++ [.lst (rgD i j)]) else none
  | _, _ => none
def dLstRg1 (da : DX) : DX := fun Δ => mbind (da Δ) fun x s => match x with
  | .int j => if rgOkB 0 j = true then some (.ok (.obj s.length), s ++ [.lst (rgD 0 j)]) else none
  | _ => none
theorem rg_dts {K : PySem.W.Frag} {φ : List Addr} {H : Hp} (i j : Int) : Dts K φ H (rgV i j) (rgD i j) := by
  unfold rgV rgD
  induction List.range (j - i).toNat with
  | nil => exact .nil
  | cons a r ih => exact .cons (.int _) ih
section
variable {X : Cx} {W : WX}
theorem de_listRg2 {a b : Expr} {da db : DX} {p pos p2 pos2 : Pos} (hc : X.calm = true) (hgr : Gl X "range") (hmr : X.mg "range" = none) (hgl : Gl X "list") (hml : X.mg "list" = none) (ha : DE X W a da) (hb : DE X W b db)
    (h1 : starEach [a, b] X.env = (false, eval a X.env) :: starEach [b] X.env := by rfl) (h2 : starEach [b] X.env = (false, eval b X.env) :: starEach [] X.env := by rfl) (h3 : (backTo pos2 (starEach [b] X.env)).any (·.1) = false := by rfl)
    (h4 : starEach [Expr.Call (.Name "range" p2) [a, b] [] pos2] X.env = (false, eval (.Call (.Name "range" p2) [a, b] [] pos2) X.env) :: starEach [] X.env := by rfl) :
    DE X W (.Call (.Name "list" p) [.Call (.Name "range" p2) [a, b] [] pos2] [] pos) (dLstRg2 da db) :=
  pe_imp (pe_listRg hc hgl hml (prg_2 hgr hmr ha hb h1 h2 h3) h4) fun σ H Q ⟨Δ, φ, s, hσ, hs, h⟩ => upE_bind hσ hs h fun φ1 v H1 x s1 f1 hσ1 hs1 rx h1 =>
    upE_bind hσ1 hs1 h1 fun φ2 u H2 y s2 f2 hσ2 hs2 ry h2 => by
      have rx2 := rx.fu f2
      split at h2
      · cases rx2
        cases ry
        split at h2
        · rename_i ok
          exact ⟨_, _, rfl, rfl, rgOk_of ok, fun L hL => h2 (φ2 ++ [L]) _ _ (fu_newO hL) (Dts.newO hs2 hL (rg_dts _ _)) (obj_new hs2)⟩
        · exact h2.elim
      · exact h2.elim
theorem de_listRg1 {a : Expr} {da : DX} {p pos p2 pos2 : Pos} (hc : X.calm = true) (hgr : Gl X "range") (hmr : X.mg "range" = none) (hgl : Gl X "list") (hml : X.mg "list" = none) (ha : DE X W a da)
    (h1 : starEach [a] X.env = (false, eval a X.env) :: starEach [] X.env := by rfl)
    (h4 : starEach [Expr.Call (.Name "range" p2) [a] [] pos2] X.env = (false, eval (.Call (.Name "range" p2) [a] [] pos2) X.env) :: starEach [] X.env := by rfl) :
    DE X W (.Call (.Name "list" p) [.Call (.Name "range" p2) [a] [] pos2] [] pos) (dLstRg1 da) :=
  pe_imp (pe_listRg hc hgl hml (prg_1 hgr hmr ha h1) h4) fun σ H Q ⟨Δ, φ, s, hσ, hs, h⟩ => upE_bind hσ hs h fun φ1 v H1 x s1 f1 hσ1 hs1 rx h1 => by
      split at h1
      · cases rx
        split at h1
        · rename_i ok
          exact ⟨_, rfl, rgOk_of ok, fun L hL => h1 (φ1 ++ [L]) _ _ (fu_newO hL) (Dts.newO hs1 hL (rg_dts _ _)) (obj_new hs1)⟩
        · exact h1.elim
      · exact h1.elim
end
end DV

namespace My
open PySem L2 PyProof.Rows DV
abbrev topS (i : Nat) : Stmt := PySem.Challenge.pw_barscribe_k85_delays_that_clash.main.body.getD i (.Pass ⟨0, 0, 0, 0⟩)
structure Ax where
  (ct_u_law_refused pt_u_law_refused : Addr)
  (fx_BadVoice : Addr) (dx_BadVoice : FuncData)
  (f_is_number f_u_is_entry f_u_is_voice f_u_check_time f_clashes f_next_clear f_u_law_begin f_u_law_draw f_u_law_pick f_u_law_gcd f_u_law_span f_u_law_voice f_u_law_sounding f_u_law_meet f_u_law_caught f_u_law_refused f_u_law_great_right f_law c_BadTime c_BadVoice c_RhythmError : Addr)
  (d_is_number d_u_is_entry d_u_is_voice d_u_check_time d_clashes d_next_clear d_u_law_begin d_u_law_draw d_u_law_pick d_u_law_gcd d_u_law_span d_u_law_voice d_u_law_sounding d_u_law_meet d_u_law_caught d_u_law_refused d_u_law_great_right d_law : FuncData)
def lm_u_law_refused (A : Ax) : Lm := ⟨A.ct_u_law_refused, A.pt_u_law_refused, "_law_refused.<locals>.<lambda>"⟩
def lmsA (A : Ax) : List Lm := [lm_u_law_refused A]
abbrev s_is_number : Stmt := topS 6
theorem sc_is_number : FnScope ["thing"] ["thing"] (defScope s_is_number) := ⟨rfl, rfl, rfl, by decide +kernel, rfl, by decide +kernel, by decide +kernel⟩
abbrev s_u_is_entry : Stmt := topS 12
theorem sc_u_is_entry : FnScope ["thing"] ["thing"] (defScope s_u_is_entry) := ⟨rfl, rfl, rfl, by decide +kernel, rfl, by decide +kernel, by decide +kernel⟩
abbrev s_u_is_voice : Stmt := topS 11
theorem sc_u_is_voice : FnScope ["thing", "length", "onsets", "entry", "onset", "later"] ["thing"] (defScope s_u_is_voice) := ⟨rfl, rfl, rfl, by decide +kernel, rfl, by decide +kernel, by decide +kernel⟩
abbrev s_u_check_time : Stmt := topS 13
theorem sc_u_check_time : FnScope ["time"] ["time"] (defScope s_u_check_time) := ⟨rfl, rfl, rfl, by decide +kernel, rfl, by decide +kernel, by decide +kernel⟩
abbrev s_clashes : Stmt := topS 14
theorem sc_clashes : FnScope ["one", "other", "common", "away", "index", "voice", "first", "second"] ["one", "other"] (defScope s_clashes) := ⟨rfl, rfl, rfl, by decide +kernel, rfl, by decide +kernel, by decide +kernel⟩
abbrev s_next_clear : Stmt := topS 15
theorem sc_next_clear : FnScope ["one", "other", "delay", "common", "found"] ["one", "other", "delay"] (defScope s_next_clear) := ⟨rfl, rfl, rfl, by decide +kernel, rfl, by decide +kernel, by decide +kernel⟩
abbrev s_u_law_begin : Stmt := topS 17
theorem sc_u_law_begin : FnScope ["_law_cell", "_law_turn"] ["_law_cell", "_law_turn"] (defScope s_u_law_begin) := ⟨rfl, rfl, rfl, by decide +kernel, rfl, by decide +kernel, by decide +kernel⟩
abbrev s_u_law_draw : Stmt := topS 18
theorem sc_u_law_draw : FnScope ["_law_state", "_law_size", "_law_found"] ["_law_state", "_law_size"] (defScope s_u_law_draw) := ⟨rfl, rfl, rfl, by decide +kernel, rfl, by decide +kernel, by decide +kernel⟩
abbrev s_u_law_pick : Stmt := topS 19
theorem sc_u_law_pick : FnScope ["_law_state", "_law_items"] ["_law_state", "_law_items"] (defScope s_u_law_pick) := ⟨rfl, rfl, rfl, by decide +kernel, rfl, by decide +kernel, by decide +kernel⟩
abbrev s_u_law_gcd : Stmt := topS 20
theorem sc_u_law_gcd : FnScope ["_law_near", "_law_away"] ["_law_near", "_law_away"] (defScope s_u_law_gcd) := ⟨rfl, rfl, rfl, by decide +kernel, rfl, by decide +kernel, by decide +kernel⟩
abbrev s_u_law_span : Stmt := topS 21
theorem sc_u_law_span : FnScope ["_law_voices", "_law_found", "_law_length", "_law_onsets", "_law_entry"] ["_law_voices"] (defScope s_u_law_span) := ⟨rfl, rfl, rfl, by decide +kernel, rfl, by decide +kernel, by decide +kernel⟩
abbrev s_u_law_voice : Stmt := topS 22
theorem sc_u_law_voice : FnScope ["_law_state", "_law_lengths", "_law_length", "_law_onsets", "_law_turn"] ["_law_state", "_law_lengths"] (defScope s_u_law_voice) := ⟨rfl, rfl, rfl, by decide +kernel, rfl, by decide +kernel, by decide +kernel⟩
abbrev s_u_law_sounding : Stmt := topS 23
theorem sc_u_law_sounding : FnScope ["_law_voices", "_law_time", "_law_found", "_law_index", "_law_steps", "_law_length", "_law_onsets", "_law_entry", "_law_onset", "_law_step"] ["_law_voices", "_law_time"] (defScope s_u_law_sounding) := ⟨rfl, rfl, rfl, by decide +kernel, rfl, by decide +kernel, by decide +kernel⟩
abbrev s_u_law_meet : Stmt := topS 24
theorem sc_u_law_meet : FnScope ["_law_first", "_law_second", "_law_wait", "_law_pair", "_law_late", "_law_step"] ["_law_first", "_law_second", "_law_wait"] (defScope s_u_law_meet) := ⟨rfl, rfl, rfl, by decide +kernel, rfl, by decide +kernel, by decide +kernel⟩
abbrev s_u_law_caught : Stmt := topS 25
theorem sc_u_law_caught : FnScope ["_law_work", "_law_caught_here", "error"] ["_law_work"] (defScope s_u_law_caught) := ⟨rfl, rfl, rfl, by decide +kernel, rfl, by decide +kernel, by decide +kernel⟩
abbrev s_u_law_refused : Stmt := topS 26
theorem sc_u_law_refused : FnScope ["_law_state", "_law_first", "_law_second", "_law_some", "_law_odd", "_law_found", "_law_late"] ["_law_state", "_law_first", "_law_second"] (defScope s_u_law_refused) := ⟨rfl, rfl, rfl, by decide +kernel, rfl, by decide +kernel, by decide +kernel⟩
abbrev s_u_law_great_right : Stmt := topS 27
theorem sc_u_law_great_right : FnScope ["_law_state", "_law_factor", "_law_pair", "_law_size", "_law_gaps", "_law_near", "_law_begin_here", "_law_told", "_law_between", "_law_onsets", "_law_divisor", "_law_found", "_law_step", "_law_two", "_law_turn", "_law_gap"] ["_law_state"] (defScope s_u_law_great_right) := ⟨rfl, rfl, rfl, by decide +kernel, rfl, by decide +kernel, by decide +kernel⟩
abbrev s_law : Stmt := topS 28
theorem sc_law : FnScope ["_law_script", "_law_turn", "_law_cell", "_law_state", "_law_lengths", "_law_divisor", "_law_due", "_law_lap", "_law_first", "_law_second", "_law_begin_here", "_law_free", "_law_told", "_law_wait", "_law_step"] ["_law_script"] (defScope s_law) := ⟨rfl, rfl, rfl, by decide +kernel, rfl, by decide +kernel, by decide +kernel⟩
abbrev s_x_BadVoice : Stmt := inClass (topS 3) 0
theorem sc_x_BadVoice : FnScope ["self", "index"] ["self", "index"] (defScope s_x_BadVoice) := ⟨rfl, rfl, rfl, by decide +kernel, rfl, by decide +kernel, by decide +kernel⟩
structure Tx (K : PySem.W.Frag) (mg : Str → Option Value) (A : Ax) : Prop where
  F_is_number : Fun K "is_number" "is_number" s_is_number A.f_is_number A.d_is_number
  b_is_number : Binds K A.d_is_number ["thing"] []
  m_is_number : mg "is_number" = some (.ref A.f_is_number)
  F_u_is_entry : Fun K "_is_entry" "_is_entry" s_u_is_entry A.f_u_is_entry A.d_u_is_entry
  b_u_is_entry : Binds K A.d_u_is_entry ["thing"] []
  m_u_is_entry : mg "_is_entry" = some (.ref A.f_u_is_entry)
  F_u_is_voice : Fun K "_is_voice" "_is_voice" s_u_is_voice A.f_u_is_voice A.d_u_is_voice
  b_u_is_voice : Binds K A.d_u_is_voice ["thing"] []
  m_u_is_voice : mg "_is_voice" = some (.ref A.f_u_is_voice)
  F_u_check_time : Fun K "_check_time" "_check_time" s_u_check_time A.f_u_check_time A.d_u_check_time
  b_u_check_time : Binds K A.d_u_check_time ["time"] []
  m_u_check_time : mg "_check_time" = some (.ref A.f_u_check_time)
  F_clashes : Fun K "clashes" "clashes" s_clashes A.f_clashes A.d_clashes
  b_clashes : Binds K A.d_clashes ["one", "other"] []
  m_clashes : mg "clashes" = some (.ref A.f_clashes)
  F_next_clear : Fun K "next_clear" "next_clear" s_next_clear A.f_next_clear A.d_next_clear
  b_next_clear : Binds K A.d_next_clear ["one", "other", "delay"] []
  m_next_clear : mg "next_clear" = some (.ref A.f_next_clear)
  F_u_law_begin : Fun K "_law_begin" "_law_begin" s_u_law_begin A.f_u_law_begin A.d_u_law_begin
  b_u_law_begin : Binds K A.d_u_law_begin ["_law_cell", "_law_turn"] []
  m_u_law_begin : mg "_law_begin" = some (.ref A.f_u_law_begin)
  F_u_law_draw : Fun K "_law_draw" "_law_draw" s_u_law_draw A.f_u_law_draw A.d_u_law_draw
  b_u_law_draw : Binds K A.d_u_law_draw ["_law_state", "_law_size"] []
  m_u_law_draw : mg "_law_draw" = some (.ref A.f_u_law_draw)
  F_u_law_pick : Fun K "_law_pick" "_law_pick" s_u_law_pick A.f_u_law_pick A.d_u_law_pick
  b_u_law_pick : Binds K A.d_u_law_pick ["_law_state", "_law_items"] []
  m_u_law_pick : mg "_law_pick" = some (.ref A.f_u_law_pick)
  F_u_law_gcd : Fun K "_law_gcd" "_law_gcd" s_u_law_gcd A.f_u_law_gcd A.d_u_law_gcd
  b_u_law_gcd : Binds K A.d_u_law_gcd ["_law_near", "_law_away"] []
  m_u_law_gcd : mg "_law_gcd" = some (.ref A.f_u_law_gcd)
  F_u_law_span : Fun K "_law_span" "_law_span" s_u_law_span A.f_u_law_span A.d_u_law_span
  b_u_law_span : Binds K A.d_u_law_span ["_law_voices"] []
  m_u_law_span : mg "_law_span" = some (.ref A.f_u_law_span)
  F_u_law_voice : Fun K "_law_voice" "_law_voice" s_u_law_voice A.f_u_law_voice A.d_u_law_voice
  b_u_law_voice : Binds K A.d_u_law_voice ["_law_state", "_law_lengths"] []
  m_u_law_voice : mg "_law_voice" = some (.ref A.f_u_law_voice)
  F_u_law_sounding : Fun K "_law_sounding" "_law_sounding" s_u_law_sounding A.f_u_law_sounding A.d_u_law_sounding
  b_u_law_sounding : Binds K A.d_u_law_sounding ["_law_voices", "_law_time"] []
  m_u_law_sounding : mg "_law_sounding" = some (.ref A.f_u_law_sounding)
  F_u_law_meet : Fun K "_law_meet" "_law_meet" s_u_law_meet A.f_u_law_meet A.d_u_law_meet
  b_u_law_meet : Binds K A.d_u_law_meet ["_law_first", "_law_second", "_law_wait"] []
  m_u_law_meet : mg "_law_meet" = some (.ref A.f_u_law_meet)
  F_u_law_caught : Fun K "_law_caught" "_law_caught" s_u_law_caught A.f_u_law_caught A.d_u_law_caught
  b_u_law_caught : Binds K A.d_u_law_caught ["_law_work"] []
  m_u_law_caught : mg "_law_caught" = some (.ref A.f_u_law_caught)
  F_u_law_refused : Fun K "_law_refused" "_law_refused" s_u_law_refused A.f_u_law_refused A.d_u_law_refused
  b_u_law_refused : Binds K A.d_u_law_refused ["_law_state", "_law_first", "_law_second"] []
  m_u_law_refused : mg "_law_refused" = some (.ref A.f_u_law_refused)
  F_u_law_great_right : Fun K "_law_great_right" "_law_great_right" s_u_law_great_right A.f_u_law_great_right A.d_u_law_great_right
  b_u_law_great_right : Binds K A.d_u_law_great_right ["_law_state"] []
  m_u_law_great_right : mg "_law_great_right" = some (.ref A.f_u_law_great_right)
  F_law : Fun K "law" "law" s_law A.f_law A.d_law
  b_law : Binds K A.d_law ["_law_script"] []
  m_law : mg "law" = some (.ref A.f_law)
  kb_clashes_0_other_one : KB K A.d_clashes ["one", "other"] 0 ["other", "one"] [1, 0]
  kb_next_clear_0_delay_other_one : KB K A.d_next_clear ["one", "other", "delay"] 0 ["delay", "other", "one"] [2, 1, 0]
  x_BadTime : ExcF K mg "BadTime" A.c_BadTime
  xi_BadTime : PySem.W.isClsIn K A.c_BadTime = true
  xt_BadTime : PySem.W.typeIn K (.ref A.c_BadTime) = some (.type "type")
  xi_BadVoice : PySem.W.isClsIn K A.c_BadVoice = true
  xt_BadVoice : PySem.W.typeIn K (.ref A.c_BadVoice) = some (.type "type")
  xi_RhythmError : PySem.W.isClsIn K A.c_RhythmError = true
  xt_RhythmError : PySem.W.typeIn K (.ref A.c_RhythmError) = some (.type "type")
  xm_BadTime : mg "BadTime" = some (.ref A.c_BadTime)
  xm_BadVoice : mg "BadVoice" = some (.ref A.c_BadVoice)
  xm_RhythmError : mg "RhythmError" = some (.ref A.c_RhythmError)
  oc_BadVoice : OexC K A.c_BadVoice
  xa_BadVoice : PySem.W.findIn K (.ref A.c_BadVoice) "__init__" = some (some (.ref A.fx_BadVoice))
  xt2_BadVoice : PySem.W.typeIn K (.ref A.fx_BadVoice) = some (.type "function")
  xb_BadVoice : Binds K A.dx_BadVoice ["self", "index"] []
  xF_BadVoice : Fun K "__init__" "BadVoice.__init__" s_x_BadVoice A.fx_BadVoice A.dx_BadVoice
  xn_BadVoice : PySem.W.findIn K (.ref A.c_BadVoice) "index" = some none
  bi_RhythmError : BaseI K A.c_RhythmError
  xf_BadVoice_index : XfF K A.c_BadVoice "index"
  cd_u_law_refused : A.d_u_law_refused.code = .ref A.ct_u_law_refused
  ix_BadTime_BadTime : IsX K A.c_BadTime A.c_BadTime true
  ix_BadTime_BadVoice : IsX K A.c_BadTime A.c_BadVoice false
  ix_BadVoice_BadTime : IsX K A.c_BadVoice A.c_BadTime false
  ix_BadVoice_BadVoice : IsX K A.c_BadVoice A.c_BadVoice true
  ix_RhythmError_BadTime : IsX K A.c_RhythmError A.c_BadTime true
  xx_RhythmError_BadTime : PySem.W.exmOne K (.ref A.c_BadTime) (.ref A.c_RhythmError) = some true
  ix_RhythmError_BadVoice : IsX K A.c_RhythmError A.c_BadVoice true
  xx_RhythmError_BadVoice : PySem.W.exmOne K (.ref A.c_BadVoice) (.ref A.c_RhythmError) = some true
  z_all : mg "all" = none
  z_bool : mg "bool" = none
  z_enumerate : mg "enumerate" = none
  z_int : mg "int" = none
  z_isinstance : mg "isinstance" = none
  z_len : mg "len" = none
  z_list : mg "list" = none
  z_max : mg "max" = none
  z_range : mg "range" = none
  z_set : mg "set" = none
  z_sorted : mg "sorted" = none
  z_tuple : mg "tuple" = none
  z_zip : mg "zip" = none
  u_gcd : mg "gcd" = some (.builtin "math.gcd")
  g_MOST_ENTRY : (∃ t, mg "MOST_ENTRY" = some (.int 1000000000000000 t))
  g_MOST_LENGTH : (∃ t, mg "MOST_LENGTH" = some (.int 1000000000000 t))
  g_MOST_ONSETS : (∃ t, mg "MOST_ONSETS" = some (.int 24 t))
def ds_is_number (A : Ax) : DS := (dRet (dAndT (dCB fIsi (dCons (dVar 0) (dCons (dC (.ty "int")) dNil))) (dNotT (dCB fIsi (dCons (dVar 0) (dCons (dC (.ty "bool")) dNil))))))
def M_is_number (A : Ax) : FnD := runFn 1 (ds_is_number A)
def ds_u_is_entry (A : Ax) : DS := (dRet (dAndT (dCl (argN 1 (M_is_number A)) (dCons (dVar 0) dNil)) (dChain fLe fLe (dC (.int 0)) (dVar 0) (dC (.int 1000000000000000)))))
def M_u_is_entry (A : Ax) : FnD := runFn 1 (ds_u_is_entry A)
def ds_u_is_voice (A : Ax) : DS := (dSeq (dIfS (dOr (dNot (dTruth (dCB fIsi (dCons (dVar 0) (dCons (dC (.ty "tuple")) dNil))))) (dTest (dOp fNe (dCB fLen (dCons (dVar 0) dNil)) (dC (.int 3))))) (dRet (dC (.bl false))) dNx)
  (dSeq (dAsg (dVar 0) (gTp 3 (gsCons (gN 1) (gsCons (gN 2) (gsCons (gN 3) gsNil)))))
  (dSeq (dIfS (dOr (dNot (dTruth (dCl (argN 1 (M_is_number A)) (dCons (dVar 1) dNil)))) (dOr (dNot (dTest (dChain fLe fLe (dC (.int 1)) (dVar 1) (dC (.int 1000000000000))))) (dNot (dTruth (dCl (argN 1 (M_u_is_entry A)) (dCons (dVar 3) dNil)))))) (dRet (dC (.bl false))) dNx)
  (dSeq (dIfS (dOr (dNot (dTruth (dCB fIsi (dCons (dVar 2) (dCons (dC (.ty "tuple")) dNil))))) (dNot (dTest (dChain fLe fLe (dC (.int 1)) (dCB fLen (dCons (dVar 2) dNil)) (dC (.int 24)))))) (dRet (dC (.bl false))) dNx)
  (dSeq (dIfS (dNot (dTruth (dCB fAll (dCons (dLc [4] (iSeqT (dVar 2)) (gN 4) dYes (dAndT (dCl (argN 1 (M_is_number A)) (dCons (dVar 4) dNil)) (dChain fLe fLt (dC (.int 0)) (dVar 4) (dVar 1)))) dNil)))) (dRet (dC (.bl false))) dNx)
  (dRet (dCB fAll (dCons (dLc [4, 5] (iZipM (dCons (dVar 2) (dCons (dSl fSlA (dVar 2) (dPt (dC (.int 1))) dNoPt) dNil))) (gTp 2 (gsCons (gN 4) (gsCons (gN 5) gsNil))) dYes (dOp fLt (dVar 4) (dVar 5))) dNil))))))))
def M_u_is_voice (A : Ax) : FnD := runFn 6 (ds_u_is_voice A)
def ds_u_check_time (A : Ax) : DS := (dIfS (dOr (dNot (dTruth (dCl (argN 1 (M_is_number A)) (dCons (dVar 0) dNil)))) (dTest (dOp fLt (dVar 0) (dC (.int 0))))) (dRaiseC A.c_BadTime) dNx)
def M_u_check_time (A : Ax) : FnD := runFn 1 (ds_u_check_time A)
def ds_clashes (A : Ax) : DS := (dSeq (dFor (iEnumA (dCons (dTup (dCons (dVar 0) (dCons (dVar 1) dNil))) dNil)) (gTp 2 (gsCons (gN 4) (gsCons (gN 5) gsNil))) (dIfS (dNot (dTruth (dCl (argN 1 (M_u_is_voice A)) (dCons (dVar 5) dNil)))) (dRaiseF A.c_BadVoice "index" (dVar 4)) dNx))
  (dSeq (dAsg (dCB fGcd (dCons (dOp fIx (dVar 0) (dC (.int 0))) (dCons (dOp fIx (dVar 1) (dC (.int 0))) dNil))) (gN 2))
  (dSeq (dAsg (dOp fSub (dOp fIx (dVar 0) (dC (.int 2))) (dOp fIx (dVar 1) (dC (.int 2)))) (gN 3))
  (dRet (dTup (dCons (dVar 2) (dCons (dCB fTuple (dCons (dSortSet (dCons (dLc2 [6, 7] [7] (iSeqT (dOp fIx (dVar 0) (dC (.int 1)))) (gN 6) dYes (iSeqT (dOp fIx (dVar 1) (dC (.int 1)))) (gN 7) dYes (dOp fMod (dOp fSub (dOp fAdd (dVar 3) (dVar 6)) (dVar 7)) (dVar 2))) dNil)) dNil)) dNil)))))))
def M_clashes (A : Ax) : FnD := runFn 8 (ds_clashes A)
def ds_next_clear (A : Ax) : DS := (dSeq (dAsg (dCl (argN 2 (M_clashes A)) (dCons (dVar 0) (dCons (dVar 1) dNil))) (gTp 2 (gsCons (gN 3) (gsCons (gN 4) gsNil))))
  (dSeq (dDrop (dCl (argN 1 (M_u_check_time A)) (dCons (dVar 2) dNil)))
  (dSeq (dIfS (dTest (dOp fEq (dCB fLen (dCons (dVar 4) dNil)) (dVar 3))) (dRet (dC .non)) dNx)
  (dSeq (whRun (dTest (dOp fIn (dOp fMod (dVar 2) (dVar 3)) (dVar 4))) (dAsg (dOp fAdd (dVar 2) (dC (.int 1))) (gN 2)) 40)
  (dRet (dVar 2))))))
def M_next_clear (A : Ax) : FnD := runFn 5 (ds_next_clear A)
def ds_u_law_begin (A : Ax) : DS := (dRet (dLst (dCons (dCB fMaxA (dCons (dC (.int 0)) (dCons (dOp fSub (dVar 0) (dOp fPow (dC (.int 10)) (dC (.int 18)))) dNil))) (dCons (dOp fAdd (dVar 0) (dOp fMul (dC (.int 977)) (dVar 1))) (dCons (dC (.int 0)) dNil)))))
def M_u_law_begin (A : Ax) : FnD := runFn 2 (ds_u_law_begin A)
def ds_u_law_draw (A : Ax) : DS := (dSeq (dIfS (dTest (dOp fGt (dOp fIx (dVar 0) (dC (.int 0))) (dC (.int 0)))) (dSeq (dAsg (dOp fMod (dCB fInt (dCons (dOp fIx (dVar 0) (dC (.int 0))) dNil)) (dVar 1)) (gN 2))
  (dSeq (dAsg (dOp fDivW (dOp fIx (dVar 0) (dC (.int 0))) (dVar 1)) (gSb fSet (dVar 0) (dC (.int 0))))
  (dRet (dVar 2)))) dNx)
  (dSeq (dAsg (dOp fAdd (dOp fIx (dVar 0) (dC (.int 2))) (dC (.int 1))) (gSb fSet (dVar 0) (dC (.int 2))))
  (dSeq (dAsg (dOp fAdd (dOp fMod (dCB fInt (dCons (dOp fIx (dVar 0) (dC (.int 1))) dNil)) (dC (.int 2147483629))) (dOp fMul (dC (.int 104729)) (dOp fIx (dVar 0) (dC (.int 2))))) (gN 2))
  (dSeq (dAsg (dOp fMul (dVar 2) (dOp fAdd (dOp fAdd (dOp fMod (dCB fInt (dCons (dOp fIx (dVar 0) (dC (.int 1))) dNil)) (dC (.int 2147483587))) (dOp fMul (dOp fMul (dC (.int 7919)) (dOp fIx (dVar 0) (dC (.int 2)))) (dOp fIx (dVar 0) (dC (.int 2))))) (dC (.int 11)))) (gN 2))
  (dRet (dOp fMod (dCB fInt (dCons (dOp fDivW (dOp fMod (dCB fInt (dCons (dOp fPow (dVar 2) (dC (.int 3))) dNil)) (dC (.int 2147483647))) (dC (.int 11))) dNil)) (dVar 1)))))))
def M_u_law_draw (A : Ax) : FnD := runFn 3 (ds_u_law_draw A)
def ds_u_law_pick (A : Ax) : DS := (dRet (dOp fIx (dVar 1) (dCl (argN 2 (M_u_law_draw A)) (dCons (dVar 0) (dCons (dCB fLen (dCons (dVar 1) dNil)) dNil)))))
def M_u_law_pick (A : Ax) : FnD := runFn 2 (ds_u_law_pick A)
def ds_u_law_gcd (A : Ax) : DS := (dSeq (whRun (dTest (dOp fGt (dVar 1) (dC (.int 0)))) (dPar 0 1 (dCons (dVar 1) (dCons (dOp fMod (dCB fInt (dCons (dVar 0) dNil)) (dVar 1)) dNil))) 100)
  (dRet (dVar 0)))
def M_u_law_gcd (A : Ax) : FnD := runFn 2 (ds_u_law_gcd A)
def ds_u_law_span (A : Ax) : DS := (dSeq (dAsg (dC (.int 1)) (gN 1))
  (dSeq (dFor (iSeqL (dVar 0)) (gTp 3 (gsCons (gN 2) (gsCons (gN 3) (gsCons (gN 4) gsNil)))) (dAsg (dOp fMul (dOp fDivW (dVar 1) (dCl (argN 2 (M_u_law_gcd A)) (dCons (dVar 1) (dCons (dVar 2) dNil)))) (dVar 2)) (gN 1)))
  (dRet (dVar 1))))
def M_u_law_span (A : Ax) : FnD := runFn 5 (ds_u_law_span A)
def ds_u_law_voice (A : Ax) : DS := (dSeq (dAsg (dCl (argN 2 (M_u_law_pick A)) (dCons (dVar 0) (dCons (dVar 1) dNil))) (gN 2))
  (dSeq (dAsg (dSortSet (dCons (dLc [4] (iRange1 (dCons (dOp fAdd (dC (.int 1)) (dCl (argN 2 (M_u_law_draw A)) (dCons (dVar 0) (dCons (dC (.int 4)) dNil)))) dNil)) (gN 4) dYes (dCl (argN 2 (M_u_law_draw A)) (dCons (dVar 0) (dCons (dVar 2) dNil)))) dNil)) (gN 3))
  (dRet (dTup (dCons (dVar 2) (dCons (dCB fTuple (dCons (dVar 3) dNil)) (dCons (dCl (argN 2 (M_u_law_pick A)) (dCons (dVar 0) (dCons (dLst (dCons (dC (.int 0)) (dCons (dC (.int 0)) (dCons (dCl (argN 2 (M_u_law_draw A)) (dCons (dVar 0) (dCons (dVar 2) dNil))) (dCons (dCl (argN 2 (M_u_law_draw A)) (dCons (dVar 0) (dCons (dC (.int 60)) dNil))) dNil))))) dNil))) dNil)))))))
def M_u_law_voice (A : Ax) : FnD := runFn 5 (ds_u_law_voice A)
def ds_u_law_sounding (A : Ax) : DS := (dSeq (dAsg (dLst dNil) (gN 2))
  (dSeq (dFor (iEnum (dCons (dVar 0) dNil)) (gTp 2 (gsCons (gN 3) (gsCons (gTp 3 (gsCons (gN 5) (gsCons (gN 6) (gsCons (gN 7) gsNil)))) gsNil))) (dSeq (dAsg (dLc [8] (iSeqT (dVar 6)) (gN 8) dYes (dOp fAdd (dVar 7) (dVar 8))) (gN 4))
  (dIfS (dTest (dOp fNe (dLc [9] (iSeqL (dVar 4)) (gN 9) (dAnd (dTest (dOp fLe (dVar 9) (dVar 1))) (dTest (dOp fEq (dOp fMod (dCB fInt (dCons (dOp fSub (dVar 1) (dVar 9)) dNil)) (dVar 5)) (dC (.int 0))))) (dVar 9)) (dLst dNil))) (dDrop (dBM "list" fAppend (dVar 2) (dCons (dVar 3) dNil))) dNx)))
  (dRet (dCB fTuple (dCons (dVar 2) dNil)))))
def M_u_law_sounding (A : Ax) : FnD := runFn 10 (ds_u_law_sounding A)
def ds_u_law_meet (A : Ax) : DS := (dSeq (dAsg (dLst (dCons (dVar 0) (dCons (dTup (dCons (dOp fIx (dVar 1) (dC (.int 0))) (dCons (dOp fIx (dVar 1) (dC (.int 1))) (dCons (dOp fAdd (dOp fIx (dVar 1) (dC (.int 2))) (dVar 2)) dNil)))) dNil))) (gN 3))
  (dSeq (dAsg (dCB fMaxA (dCons (dOp fIx (dOp fIx (dVar 3) (dC (.int 0))) (dC (.int 2))) (dCons (dOp fIx (dOp fIx (dVar 3) (dC (.int 1))) (dC (.int 2))) dNil))) (gN 4))
  (dRet (dOp fNe (dLc [5] (iRange2 (dCons (dVar 4) (dCons (dOp fAdd (dVar 4) (dCl (argN 1 (M_u_law_span A)) (dCons (dVar 3) dNil))) dNil))) (gN 5) (dTest (dOp fEq (dCB fLen (dCons (dCl (argN 2 (M_u_law_sounding A)) (dCons (dVar 3) (dCons (dVar 5) dNil))) dNil)) (dC (.int 2)))) (dC (.int 1))) (dLst dNil)))))
def M_u_law_meet (A : Ax) : FnD := runFn 6 (ds_u_law_meet A)
def ds_u_law_caught (A : Ax) (f : Addr) (wk : M D) : DS := (dSeq (dAsg (dC .non) (gN 1))
  (dSeq (dTryK [A.c_BadVoice, A.c_BadTime] 2 1 (dDrop (dWk 0 f wk)))
  (dSeq (dIfS (dTruth (dCB (fIsiX A.c_BadVoice [A.c_BadVoice] [A.c_BadTime]) (dCons (dVar 1) (dCons (dC (.adr A.c_BadVoice)) dNil)))) (dRet (dTup (dCons (dC (.str "voice")) (dCons (dOp1 (fFldX A.c_BadVoice "index") (dVar 1)) dNil)))) dNx)
  (dRet (dIf (dTruth (dCB (fIsiX A.c_BadTime [A.c_BadTime] [A.c_BadVoice]) (dCons (dVar 1) (dCons (dC (.adr A.c_BadTime)) dNil)))) (dTup (dCons (dC (.str "time")) (dCons (dC .non) dNil))) (dTup (dCons (dC (.str "none")) (dCons (dC .non) dNil))))))))
def M_u_law_caught (A : Ax) (f : Addr) (wk : M D) : M D := runFn 3 (ds_u_law_caught A f wk) [.adr f]
def ds_u_law_refused (A : Ax) : DS := (dSeq (dAsg (dLst (dCons (dC .non) (dCons (dTup (dCons (dC (.int 0)) (dCons (dTup (dCons (dC (.int 0)) dNil)) (dCons (dC (.int 0)) dNil)))) (dCons (dTup (dCons (dC (.int 4)) (dCons (dLst (dCons (dC (.int 1)) dNil)) (dCons (dC (.int 0)) dNil)))) (dCons (dTup (dCons (dC (.int 4)) (dCons (dTup (dCons (dC (.int 4)) dNil)) (dCons (dC (.int 0)) dNil)))) (dCons (dTup (dCons (dC (.int 4)) (dCons (dTup (dCons (dC (.int 1)) (dCons (dC (.int 1)) dNil))) (dCons (dC (.int 0)) dNil)))) (dCons (dTup (dCons (dC (.int 4)) (dCons (dTup (dCons (dC (.int 1)) dNil)) dNil))) (dCons (dC (.str "it")) (dCons (dLst (dCons (dC (.int 4)) (dCons (dTup (dCons (dC (.int 1)) dNil)) (dCons (dC (.int 0)) dNil)))) dNil))))))))) (gN 3))
  (dSeq (dAsg (dCl (argN 2 (M_u_law_pick A)) (dCons (dVar 0) (dCons (dVar 3) dNil))) (gN 4))
  (dSeq (dAsg (dLst (dCons (dLamJ 0 A.pt_u_law_refused "_law_refused.<locals>.<lambda>" (M_u_law_caught A) (dCl (argN 2 (M_clashes A)) (dCons (dVar 4) (dCons (dVar 4) dNil)))) dNil)) (gN 5))
  (dSeq (dDrop (dBM "list" fAppend (dVar 5) (dCons (dLamJ 0 A.pt_u_law_refused "_law_refused.<locals>.<lambda>" (M_u_law_caught A) (dCl (argN 2 (M_clashes A)) (dCons (dVar 1) (dCons (dVar 4) dNil)))) dNil)))
  (dSeq (dDrop (dBM "list" fAppend (dVar 5) (dCons (dLamJ 0 A.pt_u_law_refused "_law_refused.<locals>.<lambda>" (M_u_law_caught A) (dCl (argN 3 (M_next_clear A)) (dCons (dVar 4) (dCons (dVar 2) (dCons (dOp1 fNeg (dC (.int 1))) dNil))))) dNil)))
  (dSeq (dDrop (dBM "list" fAppend (dVar 5) (dCons (dLamJ 0 A.pt_u_law_refused "_law_refused.<locals>.<lambda>" (M_u_law_caught A) (dCl (argN 3 (M_next_clear A)) (dCons (dVar 1) (dCons (dVar 4) (dCons (dOp1 fNeg (dC (.int 1))) dNil))))) dNil)))
  (dSeq (dAsg (dCl (argN 2 (M_u_law_pick A)) (dCons (dVar 0) (dCons (dLst (dCons (dOp1 fNeg (dC (.int 1))) (dCons (dC .non) (dCons (dC (.bl true)) (dCons (dC (.str "0")) (dCons (dTup (dCons (dC (.int 0)) dNil)) dNil)))))) dNil))) (gN 6))
  (dSeq (dDrop (dBM "list" fAppend (dVar 5) (dCons (dLamJ 0 A.pt_u_law_refused "_law_refused.<locals>.<lambda>" (M_u_law_caught A) (dCl (argN 3 (M_next_clear A)) (dCons (dVar 1) (dCons (dVar 2) (dCons (dVar 6) dNil))))) dNil)))
  (dRet (dOp fEq (dVar 5) (dLst (dCons (dTup (dCons (dC (.str "voice")) (dCons (dC (.int 0)) dNil))) (dCons (dTup (dCons (dC (.str "voice")) (dCons (dC (.int 1)) dNil))) (dCons (dTup (dCons (dC (.str "voice")) (dCons (dC (.int 0)) dNil))) (dCons (dTup (dCons (dC (.str "voice")) (dCons (dC (.int 1)) dNil))) (dCons (dTup (dCons (dC (.str "time")) (dCons (dC .non) dNil))) dNil))))))))))))))))
def M_u_law_refused (A : Ax) : FnD := runFn 7 (ds_u_law_refused A)
def ds_u_law_great_right (A : Ax) : DS := (dSeq (dAsg (dOp fAdd (dC (.int 10)) (dCl (argN 2 (M_u_law_draw A)) (dCons (dVar 0) (dCons (dOp fPow (dC (.int 10)) (dC (.int 9))) dNil)))) (gN 1))
  (dSeq (dAsg (dLst dNil) (gN 2))
  (dSeq (dFor (iSeqL (dLst (dCons (dOp fAdd (dC (.int 1)) (dCl (argN 2 (M_u_law_draw A)) (dCons (dVar 0) (dCons (dC (.int 30)) dNil)))) (dCons (dOp fAdd (dC (.int 31)) (dCl (argN 2 (M_u_law_draw A)) (dCons (dVar 0) (dCons (dC (.int 60)) dNil)))) dNil)))) (gN 3) (dSeq (dAsg (dSortSet (dCons (dLc [14] (iRange1 (dCons (dOp fAdd (dC (.int 1)) (dCl (argN 2 (M_u_law_draw A)) (dCons (dVar 0) (dCons (dC (.int 3)) dNil)))) dNil)) (gN 14) dYes (dCl (argN 2 (M_u_law_draw A)) (dCons (dVar 0) (dCons (dOp fMul (dVar 1) (dVar 3)) dNil)))) dNil)) (gN 9))
  (dDrop (dBM "list" fAppend (dVar 2) (dCons (dTup (dCons (dOp fMul (dVar 1) (dVar 3)) (dCons (dCB fTuple (dCons (dVar 9) dNil)) (dCons (dCl (argN 2 (M_u_law_draw A)) (dCons (dVar 0) (dCons (dOp fPow (dC (.int 10)) (dC (.int 15))) dNil))) dNil)))) dNil)))))
  (dSeq (dAsg (dCl (argN 2 (M_clashes A)) (dCons (dOp fIx (dVar 2) (dC (.int 0))) (dCons (dOp fIx (dVar 2) (dC (.int 1))) dNil))) (gTp 2 (gsCons (gN 10) (gsCons (gN 11) gsNil))))
  (dSeq (dIfS (dTest (dOp fNe (dVar 10) (dCl (argN 2 (M_u_law_gcd A)) (dCons (dOp fIx (dOp fIx (dVar 2) (dC (.int 0))) (dC (.int 0))) (dCons (dOp fIx (dOp fIx (dVar 2) (dC (.int 1))) (dC (.int 0))) dNil))))) (dRet (dC (.bl false))) dNx)
  (dSeq (dAsg (dLst dNil) (gN 4))
  (dSeq (dFor (iSeqT (dOp fIx (dOp fIx (dVar 2) (dC (.int 0))) (dC (.int 1)))) (gN 5) (dAsg (dOp fAdd (dVar 4) (dLc [13] (iSeqT (dOp fIx (dOp fIx (dVar 2) (dC (.int 1))) (dC (.int 1)))) (gN 13) dYes (dOp fSub (dOp fSub (dOp fAdd (dOp fIx (dOp fIx (dVar 2) (dC (.int 0))) (dC (.int 2))) (dVar 5)) (dOp fIx (dOp fIx (dVar 2) (dC (.int 1))) (dC (.int 2)))) (dVar 13)))) (gN 4)))
  (dSeq (dIfS (dTest (dOp fNe (dVar 11) (dCB fTuple (dCons (dSortSet (dCons (dLc [15] (iSeqL (dVar 4)) (gN 15) dYes (dOp fMod (dCB fInt (dCons (dVar 15) dNil)) (dVar 10))) dNil)) dNil)))) (dRet (dC (.bl false))) dNx)
  (dSeq (dAsg (dCl (argN 2 (M_u_law_pick A)) (dCons (dVar 0) (dCons (dLst (dCons (dOp fIx (dVar 11) (dC (.int 0))) (dCons (dOp fAdd (dOp fIx (dVar 11) (dOp1 fNeg (dC (.int 1)))) (dOp fMul (dVar 10) (dOp fPow (dC (.int 10)) (dC (.int 6))))) (dCons (dCl (argN 2 (M_u_law_draw A)) (dCons (dVar 0) (dCons (dOp fPow (dC (.int 10)) (dC (.int 12))) dNil))) dNil)))) dNil))) (gN 6))
  (dSeq (dAsg (dCl (argN 3 (M_next_clear A)) (dCons (dOp fIx (dVar 2) (dC (.int 0))) (dCons (dOp fIx (dVar 2) (dC (.int 1))) (dCons (dVar 6) dNil)))) (gN 7))
  (dSeq (dAsg (dLc [12] (iRange2 (dCons (dVar 6) (dCons (dVar 7) dNil))) (gN 12) (dTest (dOp fNotIn (dOp fMod (dCB fInt (dCons (dVar 12) dNil)) (dVar 10)) (dVar 11))) (dVar 12)) (gN 8))
  (dRet (dAndT (dOp fGe (dVar 7) (dVar 6)) (dAndT (dOp fNotIn (dOp fMod (dCB fInt (dCons (dVar 7) dNil)) (dVar 10)) (dVar 11)) (dOp fEq (dVar 8) (dLst dNil))))))))))))))))
def M_u_law_great_right (A : Ax) : FnD := runFn 16 (ds_u_law_great_right A)
def ds_law (A : Ax) : DS := (dSeq (dFor (iEnum (dCons (dSl fSlA (dOrT (dVar 0) (dLst (dCons (dC (.int 5)) dNil))) dNoPt (dPt (dC (.int 4)))) dNil)) (gTp 2 (gsCons (gN 1) (gsCons (gN 2) gsNil))) (dSeq (dAsg (dCl (argN 2 (M_u_law_begin A)) (dCons (dVar 2) (dCons (dVar 1) dNil))) (gN 3))
  (dSeq (dAsg (dCl (argN 2 (M_u_law_pick A)) (dCons (dVar 3) (dCons (dLst (dCons (dLstRg2 (dC (.int 1)) (dC (.int 13))) (dCons (dLst (dCons (dC (.int 2)) (dCons (dC (.int 4)) (dCons (dC (.int 6)) (dCons (dC (.int 8)) (dCons (dC (.int 12)) dNil)))))) (dCons (dLst (dCons (dC (.int 6)) (dCons (dC (.int 12)) (dCons (dC (.int 24)) dNil)))) (dCons (dLst (dCons (dC (.int 3)) (dCons (dC (.int 5)) (dCons (dC (.int 15)) dNil)))) (dCons (dLst (dCons (dC (.int 8)) (dCons (dC (.int 16)) dNil))) dNil)))))) dNil))) (gN 4))
  (dSeq (dAsg (dTup (dCons (dCl (argN 2 (M_u_law_voice A)) (dCons (dVar 3) (dCons (dVar 4) dNil))) (dCons (dCl (argN 2 (M_u_law_voice A)) (dCons (dVar 3) (dCons (dVar 4) dNil))) dNil))) (gTp 2 (gsCons (gN 8) (gsCons (gN 9) gsNil))))
  (dSeq (dAsg (dCl (argN 2 (M_u_law_gcd A)) (dCons (dOp fIx (dVar 8) (dC (.int 0))) (dCons (dOp fIx (dVar 9) (dC (.int 0))) dNil))) (gN 5))
  (dSeq (dAsg (dCB fTuple (dCons (dLc [13] (iRange1 (dCons (dVar 5) dNil)) (gN 13) (dTruth (dCl (argN 3 (M_u_law_meet A)) (dCons (dVar 8) (dCons (dVar 9) (dCons (dVar 13) dNil))))) (dVar 13)) dNil)) (gN 6))
  (dSeq (dIfS (dOr (dTest (dOp fNe (dCl (argN 2 (M_clashes A)) (dCons (dVar 8) (dCons (dVar 9) dNil))) (dTup (dCons (dVar 5) (dCons (dVar 6) dNil))))) (dTest (dOp fNe (dClK 0 2 [1, 0] (M_clashes A) dNil (dCons (dVar 9) (dCons (dVar 8) dNil))) (dTup (dCons (dVar 5) (dCons (dVar 6) dNil)))))) (dRet (dC (.bl false))) dNx)
  (dSeq (dFor (iRange1 (dCons (dC (.int 3)) dNil)) (gN 7) (dSeq (dAsg (dCl (argN 2 (M_u_law_draw A)) (dCons (dVar 3) (dCons (dC (.int 50)) dNil))) (gN 10))
  (dSeq (dAsg (dLc [14] (iRange2 (dCons (dVar 10) (dCons (dOp fAdd (dVar 10) (dVar 5)) dNil))) (gN 14) (dNot (dTruth (dCl (argN 3 (M_u_law_meet A)) (dCons (dVar 8) (dCons (dVar 9) (dCons (dVar 14) dNil)))))) (dVar 14)) (gN 11))
  (dSeq (dAsg (dIf (dTest (dOp fNe (dVar 11) (dLst dNil))) (dOp fIx (dVar 11) (dC (.int 0))) (dC .non)) (gN 12))
  (dIfS (dOr (dTest (dOp fNe (dCl (argN 3 (M_next_clear A)) (dCons (dVar 8) (dCons (dVar 9) (dCons (dVar 10) dNil)))) (dVar 12))) (dTest (dOp fNe (dClK 0 3 [2, 1, 0] (M_next_clear A) dNil (dCons (dVar 10) (dCons (dVar 9) (dCons (dVar 8) dNil)))) (dVar 12)))) (dRet (dC (.bl false))) dNx)))))
  (dIfS (dOr (dNot (dTruth (dCl (argN 3 (M_u_law_refused A)) (dCons (dVar 3) (dCons (dVar 8) (dCons (dVar 9) dNil)))))) (dNot (dTruth (dCl (argN 1 (M_u_law_great_right A)) (dCons (dVar 3) dNil))))) (dRet (dC (.bl false))) dNx)))))))))
  (dRet (dC (.bl true))))
def M_law (A : Ax) : FnD := runFn 15 (ds_law A)
section
variable {P : Program} {w : World} {K : PySem.W.Frag} {mg : Str → Option Value} {base : Heap} {A : Ax}
theorem xi_BadVoice (T : Tx K mg A) : FnOk P w K mg base (L2.CX P w) 1 A.fx_BadVoice A.dx_BadVoice ["self", "index"] (spIn A.c_BadVoice "index") :=
  fn_einit T.xF_BadVoice sc_x_BadVoice T.oc_BadVoice T.xn_BadVoice fun cdv AA outer s H E => pss_cons (ps_expr (pe_einit T.bi_RhythmError rfl T.xm_RhythmError (pa_cons (pe_var (i := 0) rfl (Or.inl rfl)) (pa_cons pe_str pa_nil)))) (pss_one (ps_ost (pe_var (i := 0) rfl (Or.inl rfl)) (pe_var (i := 1) rfl (Or.inl rfl))))
theorem ok_is_number (T : Tx K mg A) : FnG P w K mg base 1 A.f_is_number A.d_is_number ["thing"] (M_is_number A) :=
  fn_mkD (n := 1) (b := ds_is_number A) rfl rfl T.F_is_number sc_is_number fun cdv AA outer s H E hr tk hp => by
    unfold ds_is_number
    exact (dss_one (ds_ret (de_andT (de_callB dc_isi rfl T.z_isinstance (by decide +kernel) (da_cons (de_var 0) (da_cons (de_ty rfl T.z_int (by decide +kernel)) da_nil))) (de_one (de_notT (de_callB dc_isi rfl T.z_isinstance (by decide +kernel) (da_cons (de_var 0) (da_cons (de_ty rfl T.z_bool (by decide +kernel)) da_nil))))))))
theorem ok_u_is_entry (T : Tx K mg A) : FnG P w K mg base 2 A.f_u_is_entry A.d_u_is_entry ["thing"] (M_u_is_entry A) :=
  fn_mkD (n := 1) (b := ds_u_is_entry A) rfl rfl T.F_u_is_entry sc_u_is_entry fun cdv AA outer s H E hr tk hp => by
    unfold ds_u_is_entry
    exact (dss_one (ds_ret (de_andT (de_call (ok_is_number T) (hr.mono (by decide)) T.m_is_number T.F_is_number.kp T.b_is_number tk (da_cons (de_var 0) da_nil)) (de_one (de_chain dop_le dop_le pure_fI de_int (de_var 0) (de_globI rfl (T.g_MOST_ENTRY).choose_spec))))))
theorem ok_u_is_voice (T : Tx K mg A) : FnG P w K mg base 3 A.f_u_is_voice A.d_u_is_voice ["thing"] (M_u_is_voice A) :=
  fn_mkD (n := 6) (b := ds_u_is_voice A) rfl rfl T.F_u_is_voice sc_u_is_voice fun cdv AA outer s H E hr tk hp => by
    unfold ds_u_is_voice
    exact (dss_cons (ds_if (DW.pt (dw_or (dt_not (dt_truth (de_callB dc_isi rfl T.z_isinstance (by decide +kernel) (da_cons (de_var 0) (da_cons (de_ty rfl T.z_tuple (by decide +kernel)) da_nil))))) (dw_or1 (dt_cmp (dop_ne (hu64 hr)) (de_callB dc_len rfl T.z_len (by decide +kernel) (da_cons (de_var 0) da_nil)) de_int)))) (dss_one (ds_ret de_bl)) dss_nil)
  (dss_cons (ds_asg (de_var 0) (dg_tup rfl (dgs_cons (dg_name (i := 1) sc_u_is_voice.nd) (dgs_cons (dg_name (i := 2) sc_u_is_voice.nd) (dgs_cons (dg_name (i := 3) sc_u_is_voice.nd) dgs_nil)))))
  (dss_cons (ds_if (DW.pt (dw_or (dt_not (dt_truth (de_call (ok_is_number T) (hr.mono (by decide)) T.m_is_number T.F_is_number.kp T.b_is_number tk (da_cons (de_var 1) da_nil)))) (dw_or (dt_not (dt_chain dop_le dop_le pure_fI de_int (de_var 1) (de_globI rfl (T.g_MOST_LENGTH).choose_spec))) (dw_or1 (dt_not (dt_truth (de_call (ok_u_is_entry T) (hr.mono (by decide)) T.m_u_is_entry T.F_u_is_entry.kp T.b_u_is_entry tk (da_cons (de_var 3) da_nil)))))))) (dss_one (ds_ret de_bl)) dss_nil)
  (dss_cons (ds_if (DW.pt (dw_or (dt_not (dt_truth (de_callB dc_isi rfl T.z_isinstance (by decide +kernel) (da_cons (de_var 2) (da_cons (de_ty rfl T.z_tuple (by decide +kernel)) da_nil))))) (dw_or1 (dt_not (dt_chain dop_le dop_le pure_fI de_int (de_callB dc_len rfl T.z_len (by decide +kernel) (da_cons (de_var 2) da_nil)) (de_globI rfl (T.g_MOST_ONSETS).choose_spec)))))) (dss_one (ds_ret de_bl)) dss_nil)
  (dss_cons (ds_if (dt_not (dt_truth (de_callB (dc_all rfl) rfl T.z_all (by decide +kernel) (da_cons (de_lc (own := [("onset", 4)]) rfl sc_u_is_voice.nd (di_tup (de_var 2)) (blkOk_by (own := [("onset", 4)]) (N := ["thing", "length", "onsets", "entry", "onset", "later"]) (sc := defScope s_u_is_voice) (by decide +kernel)) (ng_name (by decide)) (fun _ _ _ _ _ => (pg_name (i := 4) sc_u_is_voice.nd rfl (by first | exact Or.inl rfl | exact Or.inr rfl))) (fun _ _ _ _ _ => dts_nil) (fun _ _ _ _ _ => (de_andT (de_call (ok_is_number T) (hr.mono (by decide)) T.m_is_number T.F_is_number.kp T.b_is_number takes0 (da_cons (de_var 4) da_nil)) (de_one (de_chain dop_le dop_lt pure_fI de_int (de_var 4) (de_var 1)))))) da_nil)))) (dss_one (ds_ret de_bl)) dss_nil)
  (dss_one (ds_ret (de_callB (dc_all rfl) rfl T.z_all (by decide +kernel) (da_cons (de_lc (own := [("onset", 4), ("later", 5)]) rfl sc_u_is_voice.nd (di_zipM rfl T.z_zip (da_cons (de_var 2) (da_cons (de_slA (de_var 2) (dp_some de_int) dp_none) da_nil))) (blkOk_by (own := [("onset", 4), ("later", 5)]) (N := ["thing", "length", "onsets", "entry", "onset", "later"]) (sc := defScope s_u_is_voice) (by decide +kernel)) (ng_tup (ngs_cons (ng_name (by decide)) (ngs_cons (ng_name (by decide)) ngs_nil))) (fun _ _ _ _ _ => (pg_tup rfl (pgs_cons (pg_name (i := 4) sc_u_is_voice.nd rfl (by first | exact Or.inl rfl | exact Or.inr rfl)) (pgs_cons (pg_name (i := 5) sc_u_is_voice.nd rfl (by first | exact Or.inl rfl | exact Or.inr rfl)) pgs_nil)))) (fun _ _ _ _ _ => dts_nil) (fun _ _ _ _ _ => (de_cmp dop_lt (de_var 4) (de_var 5)))) da_nil)))))))))
theorem ok_u_check_time (T : Tx K mg A) : FnG P w K mg base 2 A.f_u_check_time A.d_u_check_time ["time"] (M_u_check_time A) :=
  fn_mkD (n := 1) (b := ds_u_check_time A) rfl rfl T.F_u_check_time sc_u_check_time fun cdv AA outer s H E hr tk hp => by
    unfold ds_u_check_time
    exact (dss_one (ds_if (DW.pt (dw_or (dt_not (dt_truth (de_call (ok_is_number T) (hr.mono (by decide)) T.m_is_number T.F_is_number.kp T.b_is_number tk (da_cons (de_var 0) da_nil)))) (dw_or1 (dt_cmp dop_lt (de_var 0) de_int)))) (dss_one (ds_raiseC T.x_BadTime rfl tk)) dss_nil))
theorem ok_clashes (T : Tx K mg A) : FnG P w K mg base 4 A.f_clashes A.d_clashes ["one", "other"] (M_clashes A) :=
  fn_mkD (n := 8) (b := ds_clashes A) rfl rfl T.F_clashes sc_clashes fun cdv AA outer s H E hr tk hp => by
    unfold ds_clashes
    exact (dss_cons (ds_for hp rfl (di_enB rfl T.z_enumerate (da_cons (de_tup (da_cons (de_var 0) (da_cons (de_var 1) da_nil))) da_nil)) (dg_tup rfl (dgs_cons (dg_name (i := 4) sc_clashes.nd) (dgs_cons (dg_name (i := 5) sc_clashes.nd) dgs_nil))) (dss_one (ds_if (dt_not (dt_truth (de_call (ok_u_is_voice T) (hr.mono (by decide)) T.m_u_is_voice T.F_u_is_voice.kp T.b_u_is_voice tk (da_cons (de_var 5) da_nil)))) (dss_one (ds_raiseF (k := 0) ⟨T.oc_BadVoice, T.xm_BadVoice, ⟨_, _, T.xa_BadVoice, T.xt2_BadVoice, T.xb_BadVoice, xi_BadVoice T⟩⟩ rfl (hr.mono (by decide)) tk (de_var 4))) dss_nil)))
  (dss_cons (ds_set (i := 2) sc_clashes.nd (de_callF dc_gcd rfl T.u_gcd (da_cons (de_ix (de_var 0) de_int) (da_cons (de_ix (de_var 1) de_int) da_nil))))
  (dss_cons (ds_set (i := 3) sc_clashes.nd (de_op dop_sub (de_ix (de_var 0) de_int) (de_ix (de_var 1) de_int)))
  (dss_one (ds_ret (de_tup (da_cons (de_var 2) (da_cons (de_callTy dc_tuple rfl T.z_tuple (by decide +kernel) (da_cons (de_sortSet rfl rfl T.z_set rfl T.z_sorted (da_cons (de_lc2 (own := [("first", 6), ("second", 7)]) (vs1 := [7]) rfl sc_clashes.nd (di_tup (de_ix (de_var 0) de_int)) (blkOk_by (own := [("first", 6), ("second", 7)]) (N := ["one", "other", "common", "away", "index", "voice", "first", "second"]) (sc := defScope s_clashes) (by decide +kernel)) (by decide) (ng_name (by decide)) (ng_name (by decide)) (fun _ _ _ _ _ => (pg_name (i := 6) sc_clashes.nd rfl (by first | exact Or.inl rfl | exact Or.inr rfl))) (fun _ _ _ _ _ => dts_nil) (fun _ _ _ _ _ => (di_tup (de_ix (de_var 1) de_int))) (fun _ _ _ _ _ => (pg_name (i := 7) sc_clashes.nd rfl (by first | exact Or.inl rfl | exact Or.inr rfl))) (fun _ _ _ _ _ => dts_nil) (fun _ _ _ _ _ => (de_op dop_mod (de_op dop_sub (de_op dop_add (de_var 3) (de_var 6)) (de_var 7)) (de_var 2)))) da_nil)) da_nil)) da_nil))))))))
theorem ok_next_clear (T : Tx K mg A) : FnG P w K mg base 5 A.f_next_clear A.d_next_clear ["one", "other", "delay"] (M_next_clear A) :=
  fn_mkD (n := 5) (b := ds_next_clear A) rfl rfl T.F_next_clear sc_next_clear fun cdv AA outer s H E hr tk hp => by
    unfold ds_next_clear
    exact (dss_cons (ds_asg (de_call (ok_clashes T) (hr.mono (by decide)) T.m_clashes T.F_clashes.kp T.b_clashes tk (da_cons (de_var 0) (da_cons (de_var 1) da_nil))) (dg_tup rfl (dgs_cons (dg_name (i := 3) sc_next_clear.nd) (dgs_cons (dg_name (i := 4) sc_next_clear.nd) dgs_nil))))
  (dss_cons (ds_expr (de_call (ok_u_check_time T) (hr.mono (by decide)) T.m_u_check_time T.F_u_check_time.kp T.b_u_check_time tk (da_cons (de_var 2) da_nil)))
  (dss_cons (ds_if (dt_cmp (dop_eq (hu64 hr)) (de_callB dc_len rfl T.z_len (by decide +kernel) (da_cons (de_var 4) da_nil)) (de_var 3)) (dss_one (ds_ret de_non)) dss_nil)
  (dss_cons (ds_while 40 hp (dt_cmp (dop_in (hu66 hr)) (de_op dop_mod (de_var 2) (de_var 3)) (de_var 4)) (dss_one (ds_set (i := 2) sc_next_clear.nd (de_op dop_add (de_var 2) de_int))))
  (dss_one (ds_ret (de_var 2)))))))
theorem ok_u_law_begin (T : Tx K mg A) : FnG P w K mg base 1 A.f_u_law_begin A.d_u_law_begin ["_law_cell", "_law_turn"] (M_u_law_begin A) :=
  fn_mkD (n := 2) (b := ds_u_law_begin A) rfl rfl T.F_u_law_begin sc_u_law_begin fun cdv AA outer s H E hr tk hp => by
    unfold ds_u_law_begin
    exact (dss_one (ds_ret (de_lst (da_cons (de_callB (dc_maxA rfl (hu66 hr)) rfl T.z_max (by decide +kernel) (da_cons de_int (da_cons (de_op dop_sub (de_var 0) (de_op dop_pow de_int de_int)) da_nil))) (da_cons (de_op dop_add (de_var 0) (de_op dop_mul de_int (de_var 1))) (da_cons de_int da_nil))))))
theorem ok_u_law_draw (T : Tx K mg A) : FnG P w K mg base 1 A.f_u_law_draw A.d_u_law_draw ["_law_state", "_law_size"] (M_u_law_draw A) :=
  fn_mkD (n := 3) (b := ds_u_law_draw A) rfl rfl T.F_u_law_draw sc_u_law_draw fun cdv AA outer s H E hr tk hp => by
    unfold ds_u_law_draw
    exact (dss_cons (ds_if (dt_cmp dop_gt (de_ix (de_var 0) de_int) de_int) (dss_cons (ds_set (i := 2) sc_u_law_draw.nd (de_op dop_mod (de_callTy dc_int rfl T.z_int (by decide +kernel) (da_cons (de_ix (de_var 0) de_int) da_nil)) (de_var 1)))
  (dss_cons (ds_asg (de_op dop_divW (de_ix (de_var 0) de_int) (de_var 1)) (dg_sub (W := EW E) (de_var 0) de_int))
  (dss_one (ds_ret (de_var 2))))) dss_nil)
  (dss_cons (ds_asg (de_op dop_add (de_ix (de_var 0) de_int) de_int) (dg_sub (W := EW E) (de_var 0) de_int))
  (dss_cons (ds_set (i := 2) sc_u_law_draw.nd (de_op dop_add (de_op dop_mod (de_callTy dc_int rfl T.z_int (by decide +kernel) (da_cons (de_ix (de_var 0) de_int) da_nil)) de_int) (de_op dop_mul de_int (de_ix (de_var 0) de_int))))
  (dss_cons (ds_set (i := 2) sc_u_law_draw.nd (de_op dop_mul (de_var 2) (de_op dop_add (de_op dop_add (de_op dop_mod (de_callTy dc_int rfl T.z_int (by decide +kernel) (da_cons (de_ix (de_var 0) de_int) da_nil)) de_int) (de_op dop_mul (de_op dop_mul de_int (de_ix (de_var 0) de_int)) (de_ix (de_var 0) de_int))) de_int)))
  (dss_one (ds_ret (de_op dop_mod (de_callTy dc_int rfl T.z_int (by decide +kernel) (da_cons (de_op dop_divW (de_op dop_mod (de_callTy dc_int rfl T.z_int (by decide +kernel) (da_cons (de_op dop_pow (de_var 2) de_int) da_nil)) de_int) de_int) da_nil)) (de_var 1))))))))
theorem ok_u_law_pick (T : Tx K mg A) : FnG P w K mg base 2 A.f_u_law_pick A.d_u_law_pick ["_law_state", "_law_items"] (M_u_law_pick A) :=
  fn_mkD (n := 2) (b := ds_u_law_pick A) rfl rfl T.F_u_law_pick sc_u_law_pick fun cdv AA outer s H E hr tk hp => by
    unfold ds_u_law_pick
    exact (dss_one (ds_ret (de_ix (de_var 1) (de_call (ok_u_law_draw T) (hr.mono (by decide)) T.m_u_law_draw T.F_u_law_draw.kp T.b_u_law_draw tk (da_cons (de_var 0) (da_cons (de_callB dc_len rfl T.z_len (by decide +kernel) (da_cons (de_var 1) da_nil)) da_nil))))))
theorem ok_u_law_gcd (T : Tx K mg A) : FnG P w K mg base 1 A.f_u_law_gcd A.d_u_law_gcd ["_law_near", "_law_away"] (M_u_law_gcd A) :=
  fn_mkD (n := 2) (b := ds_u_law_gcd A) rfl rfl T.F_u_law_gcd sc_u_law_gcd fun cdv AA outer s H E hr tk hp => by
    unfold ds_u_law_gcd
    exact (dss_cons (ds_while 100 hp (dt_cmp dop_gt (de_var 1) de_int) (dss_one (ds_par (i := 0) (j := 1) rfl sc_u_law_gcd.nd (da_cons (de_var 1) (da_cons (de_op dop_mod (de_callTy dc_int rfl T.z_int (by decide +kernel) (da_cons (de_var 0) da_nil)) (de_var 1)) da_nil)))))
  (dss_one (ds_ret (de_var 0))))
theorem ok_u_law_span (T : Tx K mg A) : FnG P w K mg base 2 A.f_u_law_span A.d_u_law_span ["_law_voices"] (M_u_law_span A) :=
  fn_mkD (n := 5) (b := ds_u_law_span A) rfl rfl T.F_u_law_span sc_u_law_span fun cdv AA outer s H E hr tk hp => by
    unfold ds_u_law_span
    exact (dss_cons (ds_set (i := 1) sc_u_law_span.nd de_int)
  (dss_cons (ds_for hp rfl (di_list (de_var 0)) (dg_tup rfl (dgs_cons (dg_name (i := 2) sc_u_law_span.nd) (dgs_cons (dg_name (i := 3) sc_u_law_span.nd) (dgs_cons (dg_name (i := 4) sc_u_law_span.nd) dgs_nil)))) (dss_one (ds_set (i := 1) sc_u_law_span.nd (de_op dop_mul (de_op dop_divW (de_var 1) (de_call (ok_u_law_gcd T) (hr.mono (by decide)) T.m_u_law_gcd T.F_u_law_gcd.kp T.b_u_law_gcd tk (da_cons (de_var 1) (da_cons (de_var 2) da_nil)))) (de_var 2)))))
  (dss_one (ds_ret (de_var 1)))))
theorem ok_u_law_voice (T : Tx K mg A) : FnG P w K mg base 3 A.f_u_law_voice A.d_u_law_voice ["_law_state", "_law_lengths"] (M_u_law_voice A) :=
  fn_mkD (n := 5) (b := ds_u_law_voice A) rfl rfl T.F_u_law_voice sc_u_law_voice fun cdv AA outer s H E hr tk hp => by
    unfold ds_u_law_voice
    exact (dss_cons (ds_set (i := 2) sc_u_law_voice.nd (de_call (ok_u_law_pick T) (hr.mono (by decide)) T.m_u_law_pick T.F_u_law_pick.kp T.b_u_law_pick tk (da_cons (de_var 0) (da_cons (de_var 1) da_nil))))
  (dss_cons (ds_set (i := 3) sc_u_law_voice.nd (de_sortSet rfl rfl T.z_set rfl T.z_sorted (da_cons (de_lc (own := [("_law_turn", 4)]) rfl sc_u_law_voice.nd (di_range1 rfl T.z_range (da_cons (de_op dop_add de_int (de_call (ok_u_law_draw T) (hr.mono (by decide)) T.m_u_law_draw T.F_u_law_draw.kp T.b_u_law_draw tk (da_cons (de_var 0) (da_cons de_int da_nil)))) da_nil)) (blkOk_by (own := [("_law_turn", 4)]) (N := ["_law_state", "_law_lengths", "_law_length", "_law_onsets", "_law_turn"]) (sc := defScope s_u_law_voice) (by decide +kernel)) (ng_name (by decide)) (fun _ _ _ _ _ => (pg_name (i := 4) sc_u_law_voice.nd rfl (by first | exact Or.inl rfl | exact Or.inr rfl))) (fun _ _ _ _ _ => dts_nil) (fun _ _ _ _ _ => (de_call (ok_u_law_draw T) (hr.mono (by decide)) T.m_u_law_draw T.F_u_law_draw.kp T.b_u_law_draw takes0 (da_cons (de_var 0) (da_cons (de_var 2) da_nil))))) da_nil)))
  (dss_one (ds_ret (de_tup (da_cons (de_var 2) (da_cons (de_callTy dc_tuple rfl T.z_tuple (by decide +kernel) (da_cons (de_var 3) da_nil)) (da_cons (de_call (ok_u_law_pick T) (hr.mono (by decide)) T.m_u_law_pick T.F_u_law_pick.kp T.b_u_law_pick tk (da_cons (de_var 0) (da_cons (de_lst (da_cons de_int (da_cons de_int (da_cons (de_call (ok_u_law_draw T) (hr.mono (by decide)) T.m_u_law_draw T.F_u_law_draw.kp T.b_u_law_draw tk (da_cons (de_var 0) (da_cons (de_var 2) da_nil))) (da_cons (de_call (ok_u_law_draw T) (hr.mono (by decide)) T.m_u_law_draw T.F_u_law_draw.kp T.b_u_law_draw tk (da_cons (de_var 0) (da_cons de_int da_nil))) da_nil))))) da_nil))) da_nil))))))))
theorem ok_u_law_sounding (T : Tx K mg A) : FnG P w K mg base 1 A.f_u_law_sounding A.d_u_law_sounding ["_law_voices", "_law_time"] (M_u_law_sounding A) :=
  fn_mkD (n := 10) (b := ds_u_law_sounding A) rfl rfl T.F_u_law_sounding sc_u_law_sounding fun cdv AA outer s H E hr tk hp => by
    unfold ds_u_law_sounding
    exact (dss_cons (ds_set (i := 2) sc_u_law_sounding.nd (de_lst da_nil))
  (dss_cons (ds_for hp rfl (di_enum rfl T.z_enumerate (da_cons (de_var 0) da_nil)) (dg_tup rfl (dgs_cons (dg_name (i := 3) sc_u_law_sounding.nd) (dgs_cons (dg_tup rfl (dgs_cons (dg_name (i := 5) sc_u_law_sounding.nd) (dgs_cons (dg_name (i := 6) sc_u_law_sounding.nd) (dgs_cons (dg_name (i := 7) sc_u_law_sounding.nd) dgs_nil)))) dgs_nil))) (dss_cons (ds_setLc (i := 4) (own := [("_law_onset", 8)]) rfl sc_u_law_sounding.nd (di_tup (de_var 6)) (blkOk_by (own := [("_law_onset", 8)]) (N := ["_law_voices", "_law_time", "_law_found", "_law_index", "_law_steps", "_law_length", "_law_onsets", "_law_entry", "_law_onset", "_law_step"]) (sc := defScope s_u_law_sounding) (by decide +kernel)) (ng_name (by decide)) (fun _ _ _ _ _ => (pg_name (i := 8) sc_u_law_sounding.nd rfl (by first | exact Or.inl rfl | exact Or.inr rfl))) (fun _ _ _ _ _ => dts_nil) (fun _ _ _ _ _ => (de_op dop_add (de_var 7) (de_var 8))) (sw_true rfl rfl rfl (by decide +kernel)))
  (dss_one (ds_if (dt_cmp (dop_ne (hu64 hr)) (de_lc (own := [("_law_step", 9)]) rfl sc_u_law_sounding.nd (di_list (de_var 4)) (blkOk_by (own := [("_law_step", 9)]) (N := ["_law_voices", "_law_time", "_law_found", "_law_index", "_law_steps", "_law_length", "_law_onsets", "_law_entry", "_law_onset", "_law_step"]) (sc := defScope s_u_law_sounding) (by decide +kernel)) (ng_name (by decide)) (fun _ _ _ _ _ => (pg_name (i := 9) sc_u_law_sounding.nd rfl (by first | exact Or.inl rfl | exact Or.inr rfl))) (fun _ _ _ _ _ => (dts_one (DW.pt (dw_and (dt_cmp dop_le (de_var 9) (de_var 1)) (dw_and1 (dt_cmp (dop_eq (hu64 hr)) (de_op dop_mod (de_callTy dc_int rfl T.z_int (by decide +kernel) (da_cons (de_op dop_sub (de_var 1) (de_var 9)) da_nil)) (de_var 5)) de_int)))))) (fun _ _ _ _ _ => (de_var 9))) (de_lst da_nil)) (dss_one (ds_expr (de_bm PySem.F.plainAttrs_list PySem.F.slot_list_append PySem.F.type_list_append dm_append (de_var 2) (da_cons (de_var 3) da_nil)))) dss_nil))))
  (dss_one (ds_ret (de_callTy dc_tuple rfl T.z_tuple (by decide +kernel) (da_cons (de_var 2) da_nil))))))
theorem ok_u_law_meet (T : Tx K mg A) : FnG P w K mg base 3 A.f_u_law_meet A.d_u_law_meet ["_law_first", "_law_second", "_law_wait"] (M_u_law_meet A) :=
  fn_mkD (n := 6) (b := ds_u_law_meet A) rfl rfl T.F_u_law_meet sc_u_law_meet fun cdv AA outer s H E hr tk hp => by
    unfold ds_u_law_meet
    exact (dss_cons (ds_set (i := 3) sc_u_law_meet.nd (de_lst (da_cons (de_var 0) (da_cons (de_tup (da_cons (de_ix (de_var 1) de_int) (da_cons (de_ix (de_var 1) de_int) (da_cons (de_op dop_add (de_ix (de_var 1) de_int) (de_var 2)) da_nil)))) da_nil))))
  (dss_cons (ds_set (i := 4) sc_u_law_meet.nd (de_callB (dc_maxA rfl (hu66 hr)) rfl T.z_max (by decide +kernel) (da_cons (de_ix (de_ix (de_var 3) de_int) de_int) (da_cons (de_ix (de_ix (de_var 3) de_int) de_int) da_nil))))
  (dss_one (ds_ret (de_cmp (dop_ne (hu64 hr)) (de_lc (own := [("_law_step", 5)]) rfl sc_u_law_meet.nd (di_range2 rfl T.z_range (da_cons (de_var 4) (da_cons (de_op dop_add (de_var 4) (de_call (ok_u_law_span T) (hr.mono (by decide)) T.m_u_law_span T.F_u_law_span.kp T.b_u_law_span tk (da_cons (de_var 3) da_nil))) da_nil))) (blkOk_by (own := [("_law_step", 5)]) (N := ["_law_first", "_law_second", "_law_wait", "_law_pair", "_law_late", "_law_step"]) (sc := defScope s_u_law_meet) (by decide +kernel)) (ng_name (by decide)) (fun _ _ _ _ _ => (pg_name (i := 5) sc_u_law_meet.nd rfl (by first | exact Or.inl rfl | exact Or.inr rfl))) (fun _ _ _ _ _ => (dts_one (dt_cmp (dop_eq (hu64 hr)) (de_callB dc_len rfl T.z_len (by decide +kernel) (da_cons (de_call (ok_u_law_sounding T) (hr.mono (by decide)) T.m_u_law_sounding T.F_u_law_sounding.kp T.b_u_law_sounding takes0 (da_cons (de_var 3) (da_cons (de_var 5) da_nil))) da_nil)) de_int))) (fun _ _ _ _ _ => de_int)) (de_lst da_nil))))))
theorem hi_u_law_caught (A : Ax) (f : Addr) (wk : M D) (s : Sto) : M_u_law_caught A f wk s = M_u_law_caught A 0 wk s := by
  unfold M_u_law_caught ds_u_law_caught
  rw [runFn_fin, runFn_fin]
  refine fin_first (s1 := s) (by first | rfl | exact asg_two) (by first | rfl | exact asg_two) (fin_try ?_ ?_)
  rotate_left
  · rfl
  first
    | exact wk_drop rfl rfl (fun _ => fin_ig (by repeat (first | exact ig_var | exact ig_c | exact ig_nil | exact ig_yes | exact igg_n | exact igg_nil | exact igs_nx | exact igs_stop | exact (by decide) | apply igs_seq | apply igs_ret | apply igs_asg | apply igs_if | apply igs_drop | apply ig_cons | apply ig_tup | apply ig_lst | apply ig_cb | apply ig_op1 | apply ig_op | apply ig_test | apply ig_truth | apply ig_and | apply ig_or | apply ig_not | apply ig_andT | apply ig_orT | apply ig_notT | apply ig_if | apply ig_seqL | apply ig_seqT | apply ig_lc | apply igg_tp | apply igg_cons)) same0_cons) (fun _ _ => fin_ig (by repeat (first | exact ig_var | exact ig_c | exact ig_nil | exact ig_yes | exact igg_n | exact igg_nil | exact igs_nx | exact igs_stop | exact (by decide) | apply igs_seq | apply igs_ret | apply igs_asg | apply igs_if | apply igs_drop | apply ig_cons | apply ig_tup | apply ig_lst | apply ig_cb | apply ig_op1 | apply ig_op | apply ig_test | apply ig_truth | apply ig_and | apply ig_or | apply ig_not | apply ig_andT | apply ig_orT | apply ig_notT | apply ig_if | apply ig_seqL | apply ig_seqT | apply ig_lc | apply igg_tp | apply igg_cons)) (Same0.catch_ same0_cons _ _ _))
    | exact wk_asg rfl rfl (fun _ _ => fin_ig (by repeat (first | exact ig_var | exact ig_c | exact ig_nil | exact ig_yes | exact igg_n | exact igg_nil | exact igs_nx | exact igs_stop | exact (by decide) | apply igs_seq | apply igs_ret | apply igs_asg | apply igs_if | apply igs_drop | apply ig_cons | apply ig_tup | apply ig_lst | apply ig_cb | apply ig_op1 | apply ig_op | apply ig_test | apply ig_truth | apply ig_and | apply ig_or | apply ig_not | apply ig_andT | apply ig_orT | apply ig_notT | apply ig_if | apply ig_seqL | apply ig_seqT | apply ig_lc | apply igg_tp | apply igg_cons)) (Same0.set same0_cons _ _)) (fun _ _ => fin_ig (by repeat (first | exact ig_var | exact ig_c | exact ig_nil | exact ig_yes | exact igg_n | exact igg_nil | exact igs_nx | exact igs_stop | exact (by decide) | apply igs_seq | apply igs_ret | apply igs_asg | apply igs_if | apply igs_drop | apply ig_cons | apply ig_tup | apply ig_lst | apply ig_cb | apply ig_op1 | apply ig_op | apply ig_test | apply ig_truth | apply ig_and | apply ig_or | apply ig_not | apply ig_andT | apply ig_orT | apply ig_notT | apply ig_if | apply ig_seqL | apply ig_seqT | apply ig_lc | apply igg_tp | apply igg_cons)) (Same0.catch_ same0_cons _ _ _))
theorem ok_u_law_caught (T : Tx K mg A) (AA : Around) (outer : List Env) (cdv : Value) (f : Addr) (wk : M D) (s : Shared) (H : Hp) (E : XK) (f0 : List Addr) (hr : RoomG 0 (Bx P w K mg base ["_law_work", "_law_caught_here", "error"] "_law_caught" (defScope s_u_law_caught) A.f_u_law_caught cdv AA outer s H E).A) (tk : Takes (Bx P w K mg base ["_law_work", "_law_caught_here", "error"] "_law_caught" (defScope s_u_law_caught) A.f_u_law_caught cdv AA outer s H E) (EW E)) (hp : PassesOwn (model P w) (Bx P w K mg base ["_law_work", "_law_caught_here", "error"] "_law_caught" (defScope s_u_law_caught) A.f_u_law_caught cdv AA outer s H E).A (Bx P w K mg base ["_law_work", "_law_caught_here", "error"] "_law_caught" (defScope s_u_law_caught) A.f_u_law_caught cdv AA outer s H E).env (Bx P w K mg base ["_law_work", "_law_caught_here", "error"] "_law_caught" (defScope s_u_law_caught) A.f_u_law_caught cdv AA outer s H E).xe)
    (hw : ∀ (W : WX) (pn : List (Addr × Obj)) (xe : Value → Shared → Prop) (p1 p2 : Pos), Takes ((Bx P w K mg base ["_law_work", "_law_caught_here", "error"] "_law_caught" (defScope s_u_law_caught) A.f_u_law_caught cdv AA outer s H E).tr pn xe) W → DEp ((Bx P w K mg base ["_law_work", "_law_caught_here", "error"] "_law_caught" (defScope s_u_law_caught) A.f_u_law_caught cdv AA outer s H E).tr pn xe) W f0 H (.Call (.Name "_law_work" p1) [] [] p2) (dWk 0 f wk)) :
    DSsp (Bx P w K mg base ["_law_work", "_law_caught_here", "error"] "_law_caught" (defScope s_u_law_caught) A.f_u_law_caught cdv AA outer s H E) (EW E) f0 H (defBody s_u_law_caught) (ds_u_law_caught A f wk) := by
  unfold ds_u_law_caught
  exact (dssp_cons (DSt.p (ds_set (i := 1) sc_u_law_caught.nd de_non))
  (dssp_cons (dsp_tryK (L := [A.c_BadVoice, A.c_BadTime]) (i := 2) (j := 1) rfl rfl sc_u_law_caught.nd (by decide) (all_cons T.xx_RhythmError_BadVoice (all_cons T.xx_RhythmError_BadTime all_nil)) ⟨rfl, by decide, .inl T.xm_RhythmError⟩ (fun W pn xe tk hp => (dssp_one (dsp_expr (hw W pn xe _ _ tk)))) (fun _ _ => ds_set (i := 1) sc_u_law_caught.nd (de_var 2)))
  (dssp_cons (DSt.p (ds_if (dt_truth (de_callB (dc_isiX (Y := [A.c_BadVoice]) (N := [A.c_BadTime]) T.xi_BadVoice T.xt_BadVoice (all_cons T.ix_BadVoice_BadVoice all_nil) (all_cons T.ix_BadVoice_BadTime all_nil)) rfl T.z_isinstance (by decide +kernel) (da_cons (de_var 1) (da_cons (de_globA rfl T.xm_BadVoice) da_nil)))) (dss_one (ds_ret (de_tup (da_cons de_str (da_cons (de_fldX T.xf_BadVoice_index (de_var 1)) da_nil))))) dss_nil))
  (dssp_one (DSt.p (ds_ret (de_if (dt_truth (de_callB (dc_isiX (Y := [A.c_BadTime]) (N := [A.c_BadVoice]) T.xi_BadTime T.xt_BadTime (all_cons T.ix_BadTime_BadTime all_nil) (all_cons T.ix_BadTime_BadVoice all_nil)) rfl T.z_isinstance (by decide +kernel) (da_cons (de_var 1) (da_cons (de_globA rfl T.xm_BadTime) da_nil)))) (de_tup (da_cons de_str (da_cons de_non da_nil))) (de_tup (da_cons de_str (da_cons de_non da_nil))))))))))
theorem ok_u_law_refused (T : Tx K mg A) (TB : ∀ y ∈ lmsA A, LamX.TabB base mg y.c y.p) : FnG P w K mg base 8 A.f_u_law_refused A.d_u_law_refused ["_law_state", "_law_first", "_law_second"] (M_u_law_refused A) :=
  fn_mkC (n := 7) (b := ds_u_law_refused A) rfl rfl T.F_u_law_refused sc_u_law_refused T.cd_u_law_refused fun AA outer s H E hr tk hp => by
    unfold ds_u_law_refused
    exact (dss_cons (ds_set (i := 3) sc_u_law_refused.nd (de_lst (da_cons de_non (da_cons (de_tup (da_cons de_int (da_cons (de_tup (da_cons de_int da_nil)) (da_cons de_int da_nil)))) (da_cons (de_tup (da_cons de_int (da_cons (de_lst (da_cons de_int da_nil)) (da_cons de_int da_nil)))) (da_cons (de_tup (da_cons de_int (da_cons (de_tup (da_cons de_int da_nil)) (da_cons de_int da_nil)))) (da_cons (de_tup (da_cons de_int (da_cons (de_tup (da_cons de_int (da_cons de_int da_nil))) (da_cons de_int da_nil)))) (da_cons (de_tup (da_cons de_int (da_cons (de_tup (da_cons de_int da_nil)) da_nil))) (da_cons de_str (da_cons (de_lst (da_cons de_int (da_cons (de_tup (da_cons de_int da_nil)) (da_cons de_int da_nil)))) da_nil))))))))))
  (dss_cons (ds_set (i := 4) sc_u_law_refused.nd (de_call (ok_u_law_pick T) (hr.mono (by decide)) T.m_u_law_pick T.F_u_law_pick.kp T.b_u_law_pick tk (da_cons (de_var 0) (da_cons (de_var 3) da_nil))))
  (dss_cons (ds_set (i := 5) sc_u_law_refused.nd (de_lst (da_cons (de_lamJ 0 (k := 5) (c := A.ct_u_law_refused) (P := A.pt_u_law_refused) (b := ds_u_law_caught A) (fM := M_u_law_caught A) (fun _ _ => rfl) (hi_u_law_caught A) T.m_u_law_caught T.F_u_law_caught.kp T.F_u_law_caught sc_u_law_caught T.b_u_law_caught hr tk (TB (lm_u_law_refused A) (by simp [lmsA])) rfl (LamX.lamS_by (sc := defScope s_u_law_refused) (by decide +kernel)) rfl (fun _ _ _ _ _ => rfl) (fun cdv f wk s H E f0 hr tk hp hw => ok_u_law_caught T _ _ cdv f wk s H E f0 (hr.mono (by decide)) tk hp hw) (fun _ _ _ _ _ _ _ hr tk => (de_call (ok_clashes T) (hr.mono (by decide)) T.m_clashes T.F_clashes.kp T.b_clashes tk (da_cons (de_var 4) (da_cons (de_var 4) da_nil))))) da_nil)))
  (dss_cons (ds_expr (de_bm PySem.F.plainAttrs_list PySem.F.slot_list_append PySem.F.type_list_append dm_append (de_var 5) (da_cons (de_lamJ 0 (k := 5) (c := A.ct_u_law_refused) (P := A.pt_u_law_refused) (b := ds_u_law_caught A) (fM := M_u_law_caught A) (fun _ _ => rfl) (hi_u_law_caught A) T.m_u_law_caught T.F_u_law_caught.kp T.F_u_law_caught sc_u_law_caught T.b_u_law_caught hr tk (TB (lm_u_law_refused A) (by simp [lmsA])) rfl (LamX.lamS_by (sc := defScope s_u_law_refused) (by decide +kernel)) rfl (fun _ _ _ _ _ => rfl) (fun cdv f wk s H E f0 hr tk hp hw => ok_u_law_caught T _ _ cdv f wk s H E f0 (hr.mono (by decide)) tk hp hw) (fun _ _ _ _ _ _ _ hr tk => (de_call (ok_clashes T) (hr.mono (by decide)) T.m_clashes T.F_clashes.kp T.b_clashes tk (da_cons (de_var 1) (da_cons (de_var 4) da_nil))))) da_nil)))
  (dss_cons (ds_expr (de_bm PySem.F.plainAttrs_list PySem.F.slot_list_append PySem.F.type_list_append dm_append (de_var 5) (da_cons (de_lamJ 0 (k := 5) (c := A.ct_u_law_refused) (P := A.pt_u_law_refused) (b := ds_u_law_caught A) (fM := M_u_law_caught A) (fun _ _ => rfl) (hi_u_law_caught A) T.m_u_law_caught T.F_u_law_caught.kp T.F_u_law_caught sc_u_law_caught T.b_u_law_caught hr tk (TB (lm_u_law_refused A) (by simp [lmsA])) rfl (LamX.lamS_by (sc := defScope s_u_law_refused) (by decide +kernel)) rfl (fun _ _ _ _ _ => rfl) (fun cdv f wk s H E f0 hr tk hp hw => ok_u_law_caught T _ _ cdv f wk s H E f0 (hr.mono (by decide)) tk hp hw) (fun _ _ _ _ _ _ _ hr tk => (de_call (ok_next_clear T) (hr.mono (by decide)) T.m_next_clear T.F_next_clear.kp T.b_next_clear tk (da_cons (de_var 4) (da_cons (de_var 2) (da_cons (de_neg de_int) da_nil)))))) da_nil)))
  (dss_cons (ds_expr (de_bm PySem.F.plainAttrs_list PySem.F.slot_list_append PySem.F.type_list_append dm_append (de_var 5) (da_cons (de_lamJ 0 (k := 5) (c := A.ct_u_law_refused) (P := A.pt_u_law_refused) (b := ds_u_law_caught A) (fM := M_u_law_caught A) (fun _ _ => rfl) (hi_u_law_caught A) T.m_u_law_caught T.F_u_law_caught.kp T.F_u_law_caught sc_u_law_caught T.b_u_law_caught hr tk (TB (lm_u_law_refused A) (by simp [lmsA])) rfl (LamX.lamS_by (sc := defScope s_u_law_refused) (by decide +kernel)) rfl (fun _ _ _ _ _ => rfl) (fun cdv f wk s H E f0 hr tk hp hw => ok_u_law_caught T _ _ cdv f wk s H E f0 (hr.mono (by decide)) tk hp hw) (fun _ _ _ _ _ _ _ hr tk => (de_call (ok_next_clear T) (hr.mono (by decide)) T.m_next_clear T.F_next_clear.kp T.b_next_clear tk (da_cons (de_var 1) (da_cons (de_var 4) (da_cons (de_neg de_int) da_nil)))))) da_nil)))
  (dss_cons (ds_set (i := 6) sc_u_law_refused.nd (de_call (ok_u_law_pick T) (hr.mono (by decide)) T.m_u_law_pick T.F_u_law_pick.kp T.b_u_law_pick tk (da_cons (de_var 0) (da_cons (de_lst (da_cons (de_neg de_int) (da_cons de_non (da_cons de_bl (da_cons de_str (da_cons (de_tup (da_cons de_int da_nil)) da_nil)))))) da_nil))))
  (dss_cons (ds_expr (de_bm PySem.F.plainAttrs_list PySem.F.slot_list_append PySem.F.type_list_append dm_append (de_var 5) (da_cons (de_lamJ 0 (k := 5) (c := A.ct_u_law_refused) (P := A.pt_u_law_refused) (b := ds_u_law_caught A) (fM := M_u_law_caught A) (fun _ _ => rfl) (hi_u_law_caught A) T.m_u_law_caught T.F_u_law_caught.kp T.F_u_law_caught sc_u_law_caught T.b_u_law_caught hr tk (TB (lm_u_law_refused A) (by simp [lmsA])) rfl (LamX.lamS_by (sc := defScope s_u_law_refused) (by decide +kernel)) rfl (fun _ _ _ _ _ => rfl) (fun cdv f wk s H E f0 hr tk hp hw => ok_u_law_caught T _ _ cdv f wk s H E f0 (hr.mono (by decide)) tk hp hw) (fun _ _ _ _ _ _ _ hr tk => (de_call (ok_next_clear T) (hr.mono (by decide)) T.m_next_clear T.F_next_clear.kp T.b_next_clear tk (da_cons (de_var 1) (da_cons (de_var 2) (da_cons (de_var 6) da_nil)))))) da_nil)))
  (dss_one (ds_ret (de_cmp (dop_eq (hu64 hr)) (de_var 5) (de_lst (da_cons (de_tup (da_cons de_str (da_cons de_int da_nil))) (da_cons (de_tup (da_cons de_str (da_cons de_int da_nil))) (da_cons (de_tup (da_cons de_str (da_cons de_int da_nil))) (da_cons (de_tup (da_cons de_str (da_cons de_int da_nil))) (da_cons (de_tup (da_cons de_str (da_cons de_non da_nil))) da_nil)))))))))))))))))
theorem ok_u_law_great_right (T : Tx K mg A) : FnG P w K mg base 6 A.f_u_law_great_right A.d_u_law_great_right ["_law_state"] (M_u_law_great_right A) :=
  fn_mkD (n := 16) (b := ds_u_law_great_right A) rfl rfl T.F_u_law_great_right sc_u_law_great_right fun cdv AA outer s H E hr tk hp => by
    unfold ds_u_law_great_right
    exact (dss_cons (ds_set (i := 1) sc_u_law_great_right.nd (de_op dop_add de_int (de_call (ok_u_law_draw T) (hr.mono (by decide)) T.m_u_law_draw T.F_u_law_draw.kp T.b_u_law_draw tk (da_cons (de_var 0) (da_cons (de_op dop_pow de_int de_int) da_nil)))))
  (dss_cons (ds_set (i := 2) sc_u_law_great_right.nd (de_lst da_nil))
  (dss_cons (ds_for hp rfl (di_list (de_lst (da_cons (de_op dop_add de_int (de_call (ok_u_law_draw T) (hr.mono (by decide)) T.m_u_law_draw T.F_u_law_draw.kp T.b_u_law_draw tk (da_cons (de_var 0) (da_cons de_int da_nil)))) (da_cons (de_op dop_add de_int (de_call (ok_u_law_draw T) (hr.mono (by decide)) T.m_u_law_draw T.F_u_law_draw.kp T.b_u_law_draw tk (da_cons (de_var 0) (da_cons de_int da_nil)))) da_nil)))) (dg_name (i := 3) sc_u_law_great_right.nd) (dss_cons (ds_set (i := 9) sc_u_law_great_right.nd (de_sortSet rfl rfl T.z_set rfl T.z_sorted (da_cons (de_lc (own := [("_law_turn", 14)]) rfl sc_u_law_great_right.nd (di_range1 rfl T.z_range (da_cons (de_op dop_add de_int (de_call (ok_u_law_draw T) (hr.mono (by decide)) T.m_u_law_draw T.F_u_law_draw.kp T.b_u_law_draw tk (da_cons (de_var 0) (da_cons de_int da_nil)))) da_nil)) (blkOk_by (own := [("_law_turn", 14)]) (N := ["_law_state", "_law_factor", "_law_pair", "_law_size", "_law_gaps", "_law_near", "_law_begin_here", "_law_told", "_law_between", "_law_onsets", "_law_divisor", "_law_found", "_law_step", "_law_two", "_law_turn", "_law_gap"]) (sc := defScope s_u_law_great_right) (by decide +kernel)) (ng_name (by decide)) (fun _ _ _ _ _ => (pg_name (i := 14) sc_u_law_great_right.nd rfl (by first | exact Or.inl rfl | exact Or.inr rfl))) (fun _ _ _ _ _ => dts_nil) (fun _ _ _ _ _ => (de_call (ok_u_law_draw T) (hr.mono (by decide)) T.m_u_law_draw T.F_u_law_draw.kp T.b_u_law_draw takes0 (da_cons (de_var 0) (da_cons (de_op dop_mul (de_var 1) (de_var 3)) da_nil))))) da_nil)))
  (dss_one (ds_expr (de_bm PySem.F.plainAttrs_list PySem.F.slot_list_append PySem.F.type_list_append dm_append (de_var 2) (da_cons (de_tup (da_cons (de_op dop_mul (de_var 1) (de_var 3)) (da_cons (de_callTy dc_tuple rfl T.z_tuple (by decide +kernel) (da_cons (de_var 9) da_nil)) (da_cons (de_call (ok_u_law_draw T) (hr.mono (by decide)) T.m_u_law_draw T.F_u_law_draw.kp T.b_u_law_draw tk (da_cons (de_var 0) (da_cons (de_op dop_pow de_int de_int) da_nil))) da_nil)))) da_nil))))))
  (dss_cons (ds_asg (de_call (ok_clashes T) (hr.mono (by decide)) T.m_clashes T.F_clashes.kp T.b_clashes tk (da_cons (de_ix (de_var 2) de_int) (da_cons (de_ix (de_var 2) de_int) da_nil))) (dg_tup rfl (dgs_cons (dg_name (i := 10) sc_u_law_great_right.nd) (dgs_cons (dg_name (i := 11) sc_u_law_great_right.nd) dgs_nil))))
  (dss_cons (ds_if (dt_cmp (dop_ne (hu64 hr)) (de_var 10) (de_call (ok_u_law_gcd T) (hr.mono (by decide)) T.m_u_law_gcd T.F_u_law_gcd.kp T.b_u_law_gcd tk (da_cons (de_ix (de_ix (de_var 2) de_int) de_int) (da_cons (de_ix (de_ix (de_var 2) de_int) de_int) da_nil)))) (dss_one (ds_ret de_bl)) dss_nil)
  (dss_cons (ds_set (i := 4) sc_u_law_great_right.nd (de_lst da_nil))
  (dss_cons (ds_for hp rfl (di_tup (de_ix (de_ix (de_var 2) de_int) de_int)) (dg_name (i := 5) sc_u_law_great_right.nd) (dss_one (ds_set (i := 4) sc_u_law_great_right.nd (de_op dop_add (de_var 4) (de_lc (own := [("_law_two", 13)]) rfl sc_u_law_great_right.nd (di_tup (de_ix (de_ix (de_var 2) de_int) de_int)) (blkOk_by (own := [("_law_two", 13)]) (N := ["_law_state", "_law_factor", "_law_pair", "_law_size", "_law_gaps", "_law_near", "_law_begin_here", "_law_told", "_law_between", "_law_onsets", "_law_divisor", "_law_found", "_law_step", "_law_two", "_law_turn", "_law_gap"]) (sc := defScope s_u_law_great_right) (by decide +kernel)) (ng_name (by decide)) (fun _ _ _ _ _ => (pg_name (i := 13) sc_u_law_great_right.nd rfl (by first | exact Or.inl rfl | exact Or.inr rfl))) (fun _ _ _ _ _ => dts_nil) (fun _ _ _ _ _ => (de_op dop_sub (de_op dop_sub (de_op dop_add (de_ix (de_ix (de_var 2) de_int) de_int) (de_var 5)) (de_ix (de_ix (de_var 2) de_int) de_int)) (de_var 13))))))))
  (dss_cons (ds_if (dt_cmp (dop_ne (hu64 hr)) (de_var 11) (de_callTy dc_tuple rfl T.z_tuple (by decide +kernel) (da_cons (de_sortSet rfl rfl T.z_set rfl T.z_sorted (da_cons (de_lc (own := [("_law_gap", 15)]) rfl sc_u_law_great_right.nd (di_list (de_var 4)) (blkOk_by (own := [("_law_gap", 15)]) (N := ["_law_state", "_law_factor", "_law_pair", "_law_size", "_law_gaps", "_law_near", "_law_begin_here", "_law_told", "_law_between", "_law_onsets", "_law_divisor", "_law_found", "_law_step", "_law_two", "_law_turn", "_law_gap"]) (sc := defScope s_u_law_great_right) (by decide +kernel)) (ng_name (by decide)) (fun _ _ _ _ _ => (pg_name (i := 15) sc_u_law_great_right.nd rfl (by first | exact Or.inl rfl | exact Or.inr rfl))) (fun _ _ _ _ _ => dts_nil) (fun _ _ _ _ _ => (de_op dop_mod (de_callTy dc_int rfl T.z_int (by decide +kernel) (da_cons (de_var 15) da_nil)) (de_var 10)))) da_nil)) da_nil))) (dss_one (ds_ret de_bl)) dss_nil)
  (dss_cons (ds_set (i := 6) sc_u_law_great_right.nd (de_call (ok_u_law_pick T) (hr.mono (by decide)) T.m_u_law_pick T.F_u_law_pick.kp T.b_u_law_pick tk (da_cons (de_var 0) (da_cons (de_lst (da_cons (de_ix (de_var 11) de_int) (da_cons (de_op dop_add (de_ix (de_var 11) (de_neg de_int)) (de_op dop_mul (de_var 10) (de_op dop_pow de_int de_int))) (da_cons (de_call (ok_u_law_draw T) (hr.mono (by decide)) T.m_u_law_draw T.F_u_law_draw.kp T.b_u_law_draw tk (da_cons (de_var 0) (da_cons (de_op dop_pow de_int de_int) da_nil))) da_nil)))) da_nil))))
  (dss_cons (ds_set (i := 7) sc_u_law_great_right.nd (de_call (ok_next_clear T) (hr.mono (by decide)) T.m_next_clear T.F_next_clear.kp T.b_next_clear tk (da_cons (de_ix (de_var 2) de_int) (da_cons (de_ix (de_var 2) de_int) (da_cons (de_var 6) da_nil)))))
  (dss_cons (ds_setLc (i := 8) (own := [("_law_step", 12)]) rfl sc_u_law_great_right.nd (di_range2 rfl T.z_range (da_cons (de_var 6) (da_cons (de_var 7) da_nil))) (blkOk_by (own := [("_law_step", 12)]) (N := ["_law_state", "_law_factor", "_law_pair", "_law_size", "_law_gaps", "_law_near", "_law_begin_here", "_law_told", "_law_between", "_law_onsets", "_law_divisor", "_law_found", "_law_step", "_law_two", "_law_turn", "_law_gap"]) (sc := defScope s_u_law_great_right) (by decide +kernel)) (ng_name (by decide)) (fun _ _ _ _ _ => (pg_name (i := 12) sc_u_law_great_right.nd rfl (by first | exact Or.inl rfl | exact Or.inr rfl))) (fun _ _ _ _ _ => (dts_one (dt_cmp (dop_notIn (hu66 hr)) (de_op dop_mod (de_callTy dc_int rfl T.z_int (by decide +kernel) (da_cons (de_var 12) da_nil)) (de_var 10)) (de_var 11)))) (fun _ _ _ _ _ => (de_var 12)) (sw_true rfl rfl rfl (by decide +kernel)))
  (dss_one (ds_ret (de_andT (de_cmp dop_ge (de_var 7) (de_var 6)) (de_andT (de_cmp (dop_notIn (hu66 hr)) (de_op dop_mod (de_callTy dc_int rfl T.z_int (by decide +kernel) (da_cons (de_var 7) da_nil)) (de_var 10)) (de_var 11)) (de_one (de_cmp (dop_eq (hu64 hr)) (de_var 8) (de_lst da_nil))))))))))))))))))
theorem ok_law (T : Tx K mg A) (TB : ∀ y ∈ lmsA A, LamX.TabB base mg y.c y.p) : FnG P w K mg base 9 A.f_law A.d_law ["_law_script"] (M_law A) :=
  fn_mkD (n := 15) (b := ds_law A) rfl rfl T.F_law sc_law fun cdv AA outer s H E hr tk hp => by
    unfold ds_law
    exact (dss_cons (ds_for hp rfl (di_enum rfl T.z_enumerate (da_cons (de_slA (de_orT (de_var 0) (de_one (de_lst (da_cons de_int da_nil)))) dp_none (dp_some de_int)) da_nil)) (dg_tup rfl (dgs_cons (dg_name (i := 1) sc_law.nd) (dgs_cons (dg_name (i := 2) sc_law.nd) dgs_nil))) (dss_cons (ds_set (i := 3) sc_law.nd (de_call (ok_u_law_begin T) (hr.mono (by decide)) T.m_u_law_begin T.F_u_law_begin.kp T.b_u_law_begin tk (da_cons (de_var 2) (da_cons (de_var 1) da_nil))))
  (dss_cons (ds_set (i := 4) sc_law.nd (de_call (ok_u_law_pick T) (hr.mono (by decide)) T.m_u_law_pick T.F_u_law_pick.kp T.b_u_law_pick tk (da_cons (de_var 3) (da_cons (de_lst (da_cons (de_listRg2 rfl rfl T.z_range rfl T.z_list de_int de_int) (da_cons (de_lst (da_cons de_int (da_cons de_int (da_cons de_int (da_cons de_int (da_cons de_int da_nil)))))) (da_cons (de_lst (da_cons de_int (da_cons de_int (da_cons de_int da_nil)))) (da_cons (de_lst (da_cons de_int (da_cons de_int (da_cons de_int da_nil)))) (da_cons (de_lst (da_cons de_int (da_cons de_int da_nil))) da_nil)))))) da_nil))))
  (dss_cons (ds_asg (de_tup (da_cons (de_call (ok_u_law_voice T) (hr.mono (by decide)) T.m_u_law_voice T.F_u_law_voice.kp T.b_u_law_voice tk (da_cons (de_var 3) (da_cons (de_var 4) da_nil))) (da_cons (de_call (ok_u_law_voice T) (hr.mono (by decide)) T.m_u_law_voice T.F_u_law_voice.kp T.b_u_law_voice tk (da_cons (de_var 3) (da_cons (de_var 4) da_nil))) da_nil))) (dg_tup rfl (dgs_cons (dg_name (i := 8) sc_law.nd) (dgs_cons (dg_name (i := 9) sc_law.nd) dgs_nil))))
  (dss_cons (ds_set (i := 5) sc_law.nd (de_call (ok_u_law_gcd T) (hr.mono (by decide)) T.m_u_law_gcd T.F_u_law_gcd.kp T.b_u_law_gcd tk (da_cons (de_ix (de_var 8) de_int) (da_cons (de_ix (de_var 9) de_int) da_nil))))
  (dss_cons (ds_set (i := 6) sc_law.nd (de_callTy dc_tuple rfl T.z_tuple (by decide +kernel) (da_cons (de_lc (own := [("_law_wait", 13)]) rfl sc_law.nd (di_range1 rfl T.z_range (da_cons (de_var 5) da_nil)) (blkOk_by (own := [("_law_wait", 13)]) (N := ["_law_script", "_law_turn", "_law_cell", "_law_state", "_law_lengths", "_law_divisor", "_law_due", "_law_lap", "_law_first", "_law_second", "_law_begin_here", "_law_free", "_law_told", "_law_wait", "_law_step"]) (sc := defScope s_law) (by decide +kernel)) (ng_name (by decide)) (fun _ _ _ _ _ => (pg_name (i := 13) sc_law.nd rfl (by first | exact Or.inl rfl | exact Or.inr rfl))) (fun _ _ _ _ _ => (dts_one (dt_truth (de_call (ok_u_law_meet T) (hr.mono (by decide)) T.m_u_law_meet T.F_u_law_meet.kp T.b_u_law_meet takes0 (da_cons (de_var 8) (da_cons (de_var 9) (da_cons (de_var 13) da_nil))))))) (fun _ _ _ _ _ => (de_var 13))) da_nil)))
  (dss_cons (ds_if (DW.pt (dw_or (dt_cmp (dop_ne (hu64 hr)) (de_call (ok_clashes T) (hr.mono (by decide)) T.m_clashes T.F_clashes.kp T.b_clashes tk (da_cons (de_var 8) (da_cons (de_var 9) da_nil))) (de_tup (da_cons (de_var 5) (da_cons (de_var 6) da_nil)))) (dw_or1 (dt_cmp (dop_ne (hu64 hr)) (de_callK0 (ok_clashes T) (hr.mono (by decide)) T.m_clashes T.F_clashes.kp T.kb_clashes_0_other_one tk (dk_cons (de_var 9) (dk_cons (de_var 8) dk_nil))) (de_tup (da_cons (de_var 5) (da_cons (de_var 6) da_nil))))))) (dss_one (ds_ret de_bl)) dss_nil)
  (dss_cons (ds_for hp rfl (di_range1 rfl T.z_range (da_cons de_int da_nil)) (dg_name (i := 7) sc_law.nd) (dss_cons (ds_set (i := 10) sc_law.nd (de_call (ok_u_law_draw T) (hr.mono (by decide)) T.m_u_law_draw T.F_u_law_draw.kp T.b_u_law_draw tk (da_cons (de_var 3) (da_cons de_int da_nil))))
  (dss_cons (ds_setLc (i := 11) (own := [("_law_step", 14)]) rfl sc_law.nd (di_range2 rfl T.z_range (da_cons (de_var 10) (da_cons (de_op dop_add (de_var 10) (de_var 5)) da_nil))) (blkOk_by (own := [("_law_step", 14)]) (N := ["_law_script", "_law_turn", "_law_cell", "_law_state", "_law_lengths", "_law_divisor", "_law_due", "_law_lap", "_law_first", "_law_second", "_law_begin_here", "_law_free", "_law_told", "_law_wait", "_law_step"]) (sc := defScope s_law) (by decide +kernel)) (ng_name (by decide)) (fun _ _ _ _ _ => (pg_name (i := 14) sc_law.nd rfl (by first | exact Or.inl rfl | exact Or.inr rfl))) (fun _ _ _ _ _ => (dts_one (dt_not (dt_truth (de_call (ok_u_law_meet T) (hr.mono (by decide)) T.m_u_law_meet T.F_u_law_meet.kp T.b_u_law_meet takes0 (da_cons (de_var 8) (da_cons (de_var 9) (da_cons (de_var 14) da_nil)))))))) (fun _ _ _ _ _ => (de_var 14)) (sw_true rfl rfl rfl (by decide +kernel)))
  (dss_cons (ds_set (i := 12) sc_law.nd (de_if (dt_cmp (dop_ne (hu64 hr)) (de_var 11) (de_lst da_nil)) (de_ix (de_var 11) de_int) de_non))
  (dss_one (ds_if (DW.pt (dw_or (dt_cmp (dop_ne (hu64 hr)) (de_call (ok_next_clear T) (hr.mono (by decide)) T.m_next_clear T.F_next_clear.kp T.b_next_clear tk (da_cons (de_var 8) (da_cons (de_var 9) (da_cons (de_var 10) da_nil)))) (de_var 12)) (dw_or1 (dt_cmp (dop_ne (hu64 hr)) (de_callK0 (ok_next_clear T) (hr.mono (by decide)) T.m_next_clear T.F_next_clear.kp T.kb_next_clear_0_delay_other_one tk (dk_cons (de_var 10) (dk_cons (de_var 9) (dk_cons (de_var 8) dk_nil)))) (de_var 12))))) (dss_one (ds_ret de_bl)) dss_nil))))))
  (dss_one (ds_if (DW.pt (dw_or (dt_not (dt_truth (de_call (ok_u_law_refused T TB) (hr.mono (by decide)) T.m_u_law_refused T.F_u_law_refused.kp T.b_u_law_refused tk (da_cons (de_var 3) (da_cons (de_var 8) (da_cons (de_var 9) da_nil)))))) (dw_or1 (dt_not (dt_truth (de_call (ok_u_law_great_right T) (hr.mono (by decide)) T.m_u_law_great_right T.F_u_law_great_right.kp T.b_u_law_great_right tk (da_cons (de_var 3) da_nil))))))) (dss_one (ds_ret de_bl)) dss_nil))))))))))
  (dss_one (ds_ret de_bl)))
end
end My

namespace My
open PySem L2 PyProof.Rows DV
/-! ### what any law needs: runs put together, the store, draws, texts of digits -/
@[simp] theorem atI3_0 {α : Type} {a b c : α} : atI [a, b, c] 0 = some a := rfl
@[simp] theorem atI3_1 {α : Type} {a b c : α} : atI [a, b, c] 1 = some b := rfl
@[simp] theorem atI3_2 {α : Type} {a b c : α} : atI [a, b, c] 2 = some c := rfl
@[simp] theorem ixN3_0 : ixN 3 0 = some 0 := rfl
@[simp] theorem ixN3_2 : ixN 3 2 = some 2 := rfl
theorem log_le {v : Int} {n : Nat} (h : v.natAbs < 2 ^ n) (hn : 0 < n) : v.natAbs.log2 < n := by
  by_cases c : v.natAbs = 0
  · rw [c]
    exact hn
  · exact (Nat.log2_lt c).mpr h
theorem divW_ok (a : Int) {m : Int} (h : 0 < m) (hm : m < 2 ^ 100) : divWOk a m = true := by
  unfold divWOk
  rw [decide_eq_true h, decide_eq_true (Nat.lt_trans (log_le (n := 100) (by omega) (by decide)) (by decide))]
  rfl
theorem draw_pos (A : Ax) {s : Sto} {n : Nat} {a b c m : Int} (hs : lstAt s n = some [.int a, .int b, .int c]) (ha : 0 < a) (hm : 0 < m) (hm2 : m < 2 ^ 100) :
    M_u_law_draw A [.obj n, .int m] s = some (.ok (.int (a.fmod m)), s.set n (.lst [.int (a / m), .int b, .int c])) := by
  have h1 : modOk a m = true := by unfold modOk; simp; omega
  have h2 : divWOk a m = true := divW_ok a hm hm2
  simp [M_u_law_draw, ds_u_law_draw, startD, hs, fGt, fMod, fDivW, ha, h1, h2]
theorem fm {b : Int} (a : Int) (h : 0 < b) : 0 ≤ a.fmod b ∧ a.fmod b < b := by
  rw [Int.fmod_eq_emod_of_nonneg _ (Int.le_of_lt h)]
  exact ⟨Int.emod_nonneg _ (by omega), Int.emod_lt_of_pos _ h⟩
theorem pow3 {v : Int} (h : v.natAbs < 2 ^ 200) : powOk v 3 = true := by
  have q : Builtin.Int.intBits v ≤ 200 := by
    unfold Builtin.Int.intBits
    split
    · decide
    · rename_i hz
      have hv : v.natAbs ≠ 0 := fun e => hz (by simpa using e)
      exact (Nat.log2_lt hv).mpr h
  unfold powOk
  simp only [Bool.and_eq_true, decide_eq_true_eq]
  refine ⟨by decide, ?_⟩
  have e : (3 : Int).toNat = 3 := rfl
  rw [e]
  exact Nat.le_trans (Nat.mul_le_mul_right 3 q) (by decide)
def drawI (b c m : Int) : Int :=
  ((((b.fmod 2147483629 + 104729 * c) * (b.fmod 2147483587 + 7919 * c * c + 11)) ^ 3).fmod 2147483647) / 11 |>.fmod m
theorem draw_neg (A : Ax) {s : Sto} {n : Nat} {a b c m : Int} (hs : lstAt s n = some [.int a, .int b, .int c]) (ha : ¬ 0 < a) (hc : 0 ≤ c ∧ c < 100000) (hm : 0 < m) :
    M_u_law_draw A [.obj n, .int m] s = some (.ok (.int (drawI b (c + 1) m)), s.set n (.lst [.int a, .int b, .int (c + 1)])) := by
  have h1 : ∀ i j : Int, j ≠ 0 → modOk i j = true := fun i j h => by unfold modOk; simpa using h
  have h1' : ∀ i : Int, modOk i m = true := fun i => h1 i m (by omega)
  have h2 : ∀ i : Int, divWOk i 11 = true := fun i => divW_ok i (by decide) (by decide)
  have h3 := lstAt_set (ys := [.int a, .int b, .int (c + 1)]) hs
  have m1 : mulOk 104729 (c + 1) = true := by unfold mulOk; simp
  have m2 : mulOk 7919 (c + 1) = true := by unfold mulOk; simp
  have m3 : mulOk (7919 * (c + 1)) (c + 1) = true := by
    have : (c + 1).natAbs < 2 ^ 64 := by omega
    unfold mulOk; simp [this]
  have b1 := fm b (show (0 : Int) < 2147483629 by decide)
  have b2 := fm b (show (0 : Int) < 2147483587 by decide)
  have m4 : ∀ v, mulOk (b.fmod 2147483629 + 104729 * (c + 1)) v = true := fun v => by
    have : (b.fmod 2147483629 + 104729 * (c + 1)).natAbs < 2 ^ 64 := by omega
    unfold mulOk; simp [this]
  have sq : 0 ≤ 7919 * (c + 1) * (c + 1) ∧ 7919 * (c + 1) * (c + 1) ≤ 7919 * 100000 * 100000 := by
    have q1 : 7919 * (c + 1) ≤ 7919 * 100000 := by omega
    have q2 : 0 ≤ 7919 * (c + 1) := by omega
    exact ⟨Int.mul_nonneg q2 (by omega), Int.mul_le_mul q1 (by omega) (by omega) (by decide)⟩
  have p3 : powOk ((b.fmod 2147483629 + 104729 * (c + 1)) * (b.fmod 2147483587 + 7919 * (c + 1) * (c + 1) + 11)) 3 = true := pow3 (by
    rw [Int.natAbs_mul]
    have q1 : (b.fmod 2147483629 + 104729 * (c + 1)).natAbs < 2 ^ 64 := by omega
    have q2 : (b.fmod 2147483587 + 7919 * (c + 1) * (c + 1) + 11).natAbs < 2 ^ 64 := by omega
    exact Nat.lt_trans (Nat.mul_lt_mul'' q1 q2) (by decide))
  simp [M_u_law_draw, ds_u_law_draw, startD, hs, fGt, fMod, fDivW, fAdd, fAddI, orOp, fMul, fMulI, fPow, ha, h1, h1', h2, h3, m1, m2, m3, m4, p3, drawI]
/-- k more draws from the state at n -/
def Rnd (s : Sto) (n k : Nat) : Prop := ∃ a b c : Int, lstAt s n = some [.int a, .int b, .int c] ∧ 0 ≤ c ∧ c + k ≤ 100000
/-- all but n stands -/
def Sm (n : Nat) (s s' : Sto) : Prop := s.length ≤ s'.length ∧ ∀ i, i < s.length → i ≠ n → s'[i]? = s[i]?
theorem Sm.refl (n : Nat) (s : Sto) : Sm n s s := ⟨Nat.le_refl _, fun _ _ _ => rfl⟩
theorem Sm.trans {n : Nat} {s s' s'' : Sto} (a : Sm n s s') (b : Sm n s' s'') : Sm n s s'' := ⟨Nat.le_trans a.1 b.1, fun i h e => (b.2 i (Nat.lt_of_lt_of_le h a.1) e).trans (a.2 i h e)⟩
theorem Sm.set {n : Nat} {s : Sto} {o : DO} : Sm n s (s.set n o) := ⟨by rw [List.length_set]; exact Nat.le_refl _, fun i _ e => List.getElem?_set_ne (fun z => e z.symm)⟩
theorem Sm.app {n : Nat} {s : Sto} {l : List DO} : Sm n s (s ++ l) := ⟨by simp, fun i h _ => List.getElem?_append_left h⟩
theorem Sm.lst {n m : Nat} {s s' : Sto} {xs : List D} (h : Sm n s s') (e : lstAt s m = some xs) (ne : m ≠ n) : lstAt s' m = some xs := by
  have q := lstAt_eq e
  unfold lstAt
  rw [h.2 m (List.getElem?_eq_some_iff.mp q).1 ne, q]
theorem Rnd.mono {s : Sto} {n j k : Nat} (h : Rnd s n k) (l : j ≤ k) : Rnd s n j := by
  obtain ⟨a, b, c, e, h1, h2⟩ := h
  exact ⟨a, b, c, e, h1, by omega⟩
theorem Rnd.app {s : Sto} {n k : Nat} {l : List DO} (h : Rnd s n k) : Rnd (s ++ l) n k := by
  obtain ⟨a, b, c, e, h1, h2⟩ := h
  refine ⟨a, b, c, ?_, h1, h2⟩
  have q := lstAt_eq e
  unfold lstAt
  rw [List.getElem?_append_left (List.getElem?_eq_some_iff.mp q).1, q]
theorem draw (A : Ax) {s : Sto} {n k : Nat} {m : Int} (h : Rnd s n (k + 1)) (hm : 0 < m) (hm2 : m < 2 ^ 100) : ∃ v s', M_u_law_draw A [.obj n, .int m] s = some (.ok (.int v), s') ∧ 0 ≤ v ∧ v < m ∧ Rnd s' n k ∧ Sm n s s' := by
  obtain ⟨a, b, c, hs, h1, h2⟩ := h
  by_cases ha : 0 < a
  · exact ⟨_, _, draw_pos A hs ha hm hm2, (fm a hm).1, (fm a hm).2, ⟨_, _, _, lstAt_set hs, h1, by omega⟩, Sm.set⟩
  · exact ⟨_, _, draw_neg A hs ha ⟨h1, by omega⟩ hm, (fm _ hm).1, (fm _ hm).2, ⟨_, _, _, lstAt_set hs, by omega, by omega⟩, Sm.set⟩
theorem pick (A : Ax) {s : Sto} {n j k : Nat} {xs : List D} (h : Rnd s n (k + 1)) (e : lstAt s j = some xs) (ne : j ≠ n) (h0 : 0 < xs.length) (h1 : xs.length < 1000000) : ∃ d s', M_u_law_pick A [.obj n, .obj j] s = some (.ok d, s') ∧ d ∈ xs ∧ Rnd s' n k ∧ Sm n s s' := by
  obtain ⟨v, s', hd, v0, v1, r, sm⟩ := draw A h (m := xs.length) (by omega) (by omega)
  have e' := sm.lst e ne
  have hv : v.toNat < xs.length := by omega
  have ha : atI xs v = some (xs[v.toNat]) := by
    unfold atI ixN
    rw [if_pos v0, if_pos v1]
    exact List.getElem?_eq_getElem hv
  refine ⟨xs[v.toNat], s', ?_, List.getElem_mem hv, r, sm⟩
  simp [M_u_law_pick, ds_u_law_pick, startD, e, hd, e', ha]
theorem py2_int (s : Sto) (i j : Int) : py2 s (.int i) (.int j) = some (.int i, .int j) := rfl
@[simp] theorem fEq_int (s : Sto) (i j : Int) : fEq (.int i) (.int j) s = some (.bl (i == j), s) := rfl
@[simp] theorem fNe_int (s : Sto) (i j : Int) : fNe (.int i) (.int j) s = some (.bl (!(i == j)), s) := rfl
theorem le_line {n : Nat} (h : n ≤ 1000) : n ≤ sizeLine := Nat.le_of_lt (small1000 h)
theorem Rnd.set {s : Sto} {n m k : Nat} {o : DO} (h : Rnd s n k) (ne : n ≠ m) : Rnd (s.set m o) n k := by
  obtain ⟨a, b, c, e, h1, h2⟩ := h
  exact ⟨a, b, c, by rw [lstAt_ne ne]; exact e, h1, h2⟩
theorem Rnd.lt {s : Sto} {n k : Nat} (h : Rnd s n k) : n < s.length := by
  obtain ⟨a, b, c, e, h1, h2⟩ := h
  exact lstAt_lt e
theorem Sm.setN {n m : Nat} {s s' : Sto} {o : DO} (h : Sm n s s') (hm : s.length ≤ m) : Sm n s (s'.set m o) := ⟨by rw [List.length_set]; exact h.1, fun i hi e => by rw [List.getElem?_set_ne (by omega)]; exact h.2 i hi e⟩
theorem Gr.sm {s s' : Sto} {n : Nat} (h : Gr s s') : Sm n s s' := by
  obtain ⟨l, rfl⟩ := h
  exact Sm.app
theorem Rnd.gr {s s' : Sto} {n k : Nat} (h : Rnd s n k) (g : Gr s s') : Rnd s' n k := by
  obtain ⟨l, rfl⟩ := g
  exact h.app
@[simp] theorem isi_ii {i : Int} {s : Sto} : fIsi [.int i, .ty "int"] s = some (.bl true, s) := rfl
@[simp] theorem isi_ib {i : Int} {s : Sto} : fIsi [.int i, .ty "bool"] s = some (.bl false, s) := rfl
@[simp] theorem isi_ti {i : List D} {s : Sto} : fIsi [.tup i, .ty "int"] s = some (.bl false, s) := rfl
@[simp] theorem isi_tt {i : List D} {s : Sto} : fIsi [.tup i, .ty "tuple"] s = some (.bl true, s) := rfl
@[simp] theorem isi_ss {i : Str} {s : Sto} : fIsi [.str i, .ty "str"] s = some (.bl true, s) := rfl
theorem isnum_int (A : Ax) (i : Int) (s : Sto) : M_is_number A [.int i] s = some (.ok (.bl true), s) := by simp [M_is_number, ds_is_number, startD, truD]
theorem for_gen {I : Itd} {g : DGf} {b : DS} (J : List D → Dn → Sto → Prop) (hst : ∀ r Δ s, J r Δ s → I.still s = true)
    (step : ∀ d r Δ s, J (d :: r) Δ s → ∃ Δ1 s1, g d Δ s = some (Δ1, s1) ∧ ∃ Δ2 s2, b Δ1 s1 = some (.nx Δ2, s2) ∧ J r Δ2 s2) : ∀ r Δ s, J r Δ s → ∃ Δ' s', forRun I g b r Δ s = some (.nx Δ', s') ∧ J [] Δ' s'
  | [], Δ, s, j => ⟨Δ, s, by simp [forRun, hst _ _ _ j], j⟩
  | d :: r, Δ, s, j => by
    obtain ⟨Δ1, s1, h1, Δ2, s2, h2, j2⟩ := step d r Δ s j
    obtain ⟨Δ', s', h3, h4⟩ := for_gen J hst step r Δ2 s2 j2
    exact ⟨Δ', s', by simp [forRun, hst _ _ _ j, h1, h2, h3], h4⟩
theorem still_of {its xs : List D} {m : Nat} {s : Sto} (h : lstAt s m = some xs) : Itd.still ⟨its, some (m, xs)⟩ s = true := by simp [Itd.still, h, D.beqs_self]
theorem rngOk_nat {n : Nat} (h : n ≤ 100000) : rngOk (n : Int) = true := by
  unfold rngOk
  simp only [Bool.and_eq_true, decide_eq_true_eq]
  omega
theorem lst_of_same {s s' : Sto} {m : Nat} (h : s'[m]? = s[m]?) : lstAt s' m = lstAt s m := by unfold lstAt; rw [h]
theorem ins_set {s : Sto} {n : Nat} {x} {C : Addr} {fs : List (Str × D)} (h : insAt s n = some x) : insAt (s.set n (.ins C fs)) n = some (C, fs) := by
  obtain ⟨C', fs'⟩ := x
  have := insAt_eq h
  have hl := (List.getElem?_eq_some_iff.mp this).1
  unfold insAt
  rw [List.getElem?_set_self hl]
theorem ins_gr {s s' : Sto} {n : Nat} {x} (g : Gr s s') (h : insAt s n = some x) : insAt s' n = some x := by
  obtain ⟨l, rfl⟩ := g
  obtain ⟨C', fs'⟩ := x
  have := insAt_eq h
  unfold insAt
  rw [List.getElem?_append_left (List.getElem?_eq_some_iff.mp this).1, this]
theorem ins_new {s : Sto} {C : Addr} {fs : List (Str × D)} : insAt (s ++ [.ins C fs]) s.length = some (C, fs) := by simp [insAt]
theorem fFld_obj {C : Addr} {f : Str} {n : Nat} {s : Sto} {fs : List (Str × D)} {d : D} (h : insAt s n = some (C, fs)) (e : fs.lookup f = some d) : fFld C f (.obj n) s = some (d, s) := by simp [fFld, h, e]
theorem fStF_obj {C : Addr} {f : Str} {n : Nat} {s : Sto} {fs : List (Str × D)} {d : D} (h : insAt s n = some (C, fs)) (e : fs.length < 1000) : fStF C f (.obj n) d s = some (s.set n (.ins C (putD f d fs))) := by simp [fStF, h, e]
def txt (l : List Bool) : Str := ⟨(l.map fun b => if b then 49 else 48).toArray⟩
theorem strOk_txt (l : List Bool) (h : l.length ≤ 100) : PyData.canLay0 (.str (txt l)) = true := by
  simp [PyData.canLay0, PyData.strOk, txt]
theorem fEq_str {x y : Str} {s : Sto} (hx : PyData.canLay0 (.str x) = true) (hy : PyData.canLay0 (.str y) = true) : fEq (.str x) (.str y) s = some (.bl (x == y), s) := by
  have h1 : toPy s 64 (.str x) = some (.str x) := rfl
  have h2 : toPy s 64 (.str y) = some (.str y) := rfl
  have h3 : py2 s (.str x) (.str y) = some (.str x, .str y) := by
    simp only [py2, h1, h2, SeqAt.shaped, hx, hy, PyData.depth]
    rfl
  unfold fEq
  rw [h3]
  rfl
theorem txt_size (l : List Bool) : (txt l).length = l.length := by simp [txt, Str.length]
theorem txt_cons (b : Bool) (l : List Bool) : (⟨#[if b = true then 49 else 48]⟩ : Str) ++ txt l = txt (b :: l) := by
  have q : ∀ (c : Nat) (m : List Nat), #[c] ++ m.toArray = (c :: m).toArray := fun c m => by simp
  exact congrArg (fun a => (⟨a⟩ : Str)) (q _ _)
theorem one_len (c : Nat) : Str.length ⟨#[c]⟩ = 1 := rfl
theorem rng_len (n : Nat) : (rngI 0 n).its.length = n := by simp [rngI]
theorem e_nil : ("" : Str) = txt [] := by decide
theorem seq_nx {a b : DS} {Δ Δ1 : Dn} {s s1 : Sto} (h : a Δ s = some (.nx Δ1, s1)) : dSeq a b Δ s = b Δ1 s1 := by
  rw [dSeq_eq, h]
theorem range1 {da : DA} {Δ : Dn} {s s1 : Sto} {k : Nat} (h : da Δ s = some (.ok [.int k], s1)) (hk : k ≤ 100000) : iRange1 da Δ s = some (.ok (rngI 0 k), s1) := by
  have rk := rngOk_nat hk
  rw [iRange1_eq, mbind_ok, h]
  simp only [rk, if_true, Int.toNat_natCast]
theorem for_of {di : DI} {g : DGf} {b : DS} {Δ : Dn} {s s1 : Sto} {I : Itd} {r : RS} (h : di Δ s = some (.ok I, s1)) (h2 : forRun I g b I.its Δ s1 = r) : dFor di g b Δ s = r := by
  rw [dFor_eq, sbind_eq, h]
  exact h2
theorem fn_rt {n : Nat} {b : DS} {xs : List D} {s s1 : Sto} {d : D} (h : b (startD n xs) s = some (.rt d, s1)) : runFn n b xs s = some (.ok d, s1) := by
  rw [runFn_eq, h]
theorem str1 : PyData.canLay0 (.str "") = true := by rw [e_nil]; exact strOk_txt [] (by decide)
theorem fNe_str {x y : Str} {s : Sto} (hx : PyData.canLay0 (.str x) = true) (hy : PyData.canLay0 (.str y) = true) : fNe (.str x) (.str y) s = some (.bl (!(x == y)), s) := by
  have h1 : toPy s 64 (.str x) = some (.str x) := rfl
  have h2 : toPy s 64 (.str y) = some (.str y) := rfl
  have h3 : py2 s (.str x) (.str y) = some (.str x, .str y) := by
    simp only [py2, h1, h2, SeqAt.shaped, hx, hy, PyData.depth]
    rfl
  unfold fNe
  rw [h3]
  rfl
theorem tyS {x : Str} {s : Sto} : tyD "str" (.str x) s = true := rfl
theorem mi_ok {C : Addr} {m : Str} {n : Nat} {s : Sto} {fs : List (Str × D)} (h : insAt s n = some (C, fs)) (e : fs.lookup m = none) : mIns C m (.obj n) s = some (.ok (), s) := by simp [mIns, h, e]
theorem cn {a : DX} {r : DA} {Δ : Dn} {s s1 s2 : Sto} {x : D} {xs : List D} (h1 : a Δ s = some (.ok x, s1)) (h2 : r Δ s1 = some (.ok xs, s2)) : dCons a r Δ s = some (.ok (x :: xs), s2) := by
  rw [dCons_eq, mbind_ok, h1]
  show mbind (r Δ) (fun y => mret (x :: y)) s1 = _
  rw [mbind_ok, h2]
  rfl
theorem tp {da : DA} {Δ : Dn} {s s1 : Sto} {xs : List D} (h : da Δ s = some (.ok xs, s1)) (hz : xs.length ≤ 1000) : dTup da Δ s = some (.ok (.tup xs), s1) := by
  rw [dTup_eq, mbind_ok, h]
  show (if xs.length ≤ sizeLine then mret (D.tup xs) else mfail) s1 = _
  rw [if_pos (le_line hz)]
  rfl
theorem ls {da : DA} {Δ : Dn} {s s1 : Sto} {xs : List D} (h : da Δ s = some (.ok xs, s1)) (hz : xs.length ≤ 1000) : dLst da Δ s = some (.ok (.obj s1.length), s1 ++ [.lst xs]) := by
  rw [dLst_eq, mbind_ok, h]
  show (if xs.length ≤ sizeLine then mnew (DO.lst xs) else mfail) s1 = _
  rw [if_pos (le_line hz)]
  rfl
theorem asg {de : DX} {g : DGf} {Δ Δ1 : Dn} {s s1 s2 : Sto} {d : D} (h : de Δ s = some (.ok d, s1)) (h2 : g d Δ s1 = some (Δ1, s2)) : dAsg de g Δ s = some (.nx Δ1, s2) := by
  rw [dAsg_eq, sbind_eq, h]
  simp only [h2]
theorem me5 {C : Addr} {m : Str} {f : FnD} {a : DX} {da : DA} {Δ : Dn} {s s1 s2 : Sto} {x : D} {xs : List D} (h1 : a Δ s = some (.ok x, s1)) (h2 : mIns C m x s1 = some (.ok (), s1)) (h3 : da Δ s1 = some (.ok xs, s2)) : dMe C m f a da Δ s = f (x :: xs) s2 := by
  rw [dMe_eq, mbind_ok, h1]
  show mbind (mIns C m x) (fun _ => mbind (da Δ) fun xs => f (x :: xs)) s1 = _
  rw [mbind_ok, h2]
  show mbind (da Δ) (fun xs => f (x :: xs)) s1 = _
  rw [mbind_ok, h3]
theorem cl5 {f : FnD} {da : DA} {Δ : Dn} {s s1 : Sto} {xs : List D} (h : da Δ s = some (.ok xs, s1)) : dCl f da Δ s = f xs s1 := by
  rw [dCl_eq, mbind_ok, h]
theorem ag5 {n : Nat} {f : FnD} {xs : List D} {s : Sto} (h : xs.length = n) : argN n f xs s = f xs s := by rw [argN_eq, if_pos h]
theorem op5 {f : Op2} {a b : DX} {Δ : Dn} {s s1 s2 s3 : Sto} {x y d : D} (h1 : a Δ s = some (.ok x, s1)) (h2 : b Δ s1 = some (.ok y, s2)) (h3 : f x y s2 = some (d, s3)) : dOp f a b Δ s = some (.ok d, s3) := by
  rw [dOp_eq, mbind_ok, h1]
  show mbind (b Δ) (fun y => lift2 f x y) s1 = _
  rw [mbind_ok, h2]
  show lift2 f x y s2 = _
  rw [lift2_eq, h3]
theorem te5 {a : DX} {Δ : Dn} {s s1 : Sto} {b : Bool} (h : a Δ s = some (.ok (.bl b), s1)) : dTest a Δ s = some (.ok b, s1) := by
  rw [dTest_eq, mbind_ok, h]
  rfl
theorem tr5 {a : DX} {Δ : Dn} {s s1 : Sto} {b : Bool} (h : a Δ s = some (.ok (.bl b), s1)) : dTruth a Δ s = some (.ok b, s1) := by
  rw [dTruth_eq, mbind_ok, h]
  cases b <;> rfl
theorem if5 {t : DT} {a b : DS} {Δ : Dn} {s s1 : Sto} {c : Bool} (h : t Δ s = some (.ok c, s1)) : dIfS t a b Δ s = if c = true then a Δ s1 else b Δ s1 := by
  rw [dIfS_eq, sbind_eq, h]
theorem or5 {t u : DT} {Δ : Dn} {s s1 : Sto} (h : t Δ s = some (.ok false, s1)) : dOr t u Δ s = u Δ s1 := by
  rw [dOr_eq, mbind_ok, h]
  rfl
theorem no5 {t : DT} {a : DS} {Δ : Dn} {s s1 : Sto} (h : t Δ s = some (.ok false, s1)) : dIfS t a dNx Δ s = some (.nx Δ, s1) := by
  rw [if5 h]
  rfl
theorem cb5 {f : OpN} {da : DA} {Δ : Dn} {s s1 s2 : Sto} {xs : List D} {d : D} (h : da Δ s = some (.ok xs, s1)) (h2 : f xs s1 = some (d, s2)) : dCB f da Δ s = some (.ok d, s2) := by
  rw [dCB_eq, mbind_ok, h]
  show liftN f xs s1 = _
  rw [liftN_eq, h2]
theorem ort5 {t u : DT} {Δ : Dn} {s s1 : Sto} (h : t Δ s = some (.ok true, s1)) : dOr t u Δ s = some (.ok true, s1) := by
  rw [dOr_eq, mbind_ok, h]
  rfl
theorem andt5 {t u : DT} {Δ : Dn} {s s1 : Sto} (h : t Δ s = some (.ok true, s1)) : dAnd t u Δ s = u Δ s1 := by
  rw [dAnd_eq, mbind_ok, h]
  rfl
theorem andf5 {t u : DT} {Δ : Dn} {s s1 : Sto} (h : t Δ s = some (.ok false, s1)) : dAnd t u Δ s = some (.ok false, s1) := by
  rw [dAnd_eq, mbind_ok, h]
  rfl
theorem yes5 {t : DT} {de : DX} {Δ : Dn} {s s1 s2 : Sto} {d : D} (h : t Δ s = some (.ok true, s1)) (h2 : de Δ s1 = some (.ok d, s2)) : dIfS t (dRet de) dNx Δ s = some (.rt d, s2) := by
  rw [if5 h, if_pos rfl]
  unfold dRet sbind
  rw [h2]
theorem gr_at {s s' : Sto} (g : Gr s s') {i : Nat} {o : DO} (h : s[i]? = some o) : s'[i]? = some o := by
  obtain ⟨l, rfl⟩ := g
  rw [List.getElem?_append_left (List.getElem?_eq_some_iff.mp h).1]
  exact h
theorem seq_rt {a b : DS} {Δ : Dn} {s s1 : Sto} {d : D} (h : a Δ s = some (.rt d, s1)) : dSeq a b Δ s = some (.rt d, s1) := by unfold dSeq; rw [h]
theorem lc_of {vs : List Nat} {di : DI} {g : DGf} {tt : DT} {de : DX} {Δ : Dn} {s s0 s1 : Sto} {I : Itd} (h : di Δ s = some (.ok I, s0)) (h2 : lcRun I g tt de s0.length I.its (wipeD Δ vs) (s0 ++ [.lst []]) = some s1) : dLc vs di g tt de Δ s = some (.ok (.obj s0.length), s1) := by
  rw [dLc_eq, mbind_ok, h]
  simp only [h2]
@[simp] theorem isi_ni {s : Sto} : fIsi [.non, .ty "int"] s = some (.bl false, s) := rfl
@[simp] theorem isi_nt {s : Sto} : fIsi [.non, .ty "tuple"] s = some (.bl false, s) := rfl
@[simp] theorem isi_ns {s : Sto} : fIsi [.non, .ty "str"] s = some (.bl false, s) := rfl
@[simp] theorem isi_bi {b : Bool} {s : Sto} : fIsi [.bl b, .ty "int"] s = some (.bl true, s) := rfl
@[simp] theorem isi_bb {b : Bool} {s : Sto} : fIsi [.bl b, .ty "bool"] s = some (.bl true, s) := rfl
@[simp] theorem isi_bt {b : Bool} {s : Sto} : fIsi [.bl b, .ty "tuple"] s = some (.bl false, s) := rfl
@[simp] theorem isi_bs {b : Bool} {s : Sto} : fIsi [.bl b, .ty "str"] s = some (.bl false, s) := rfl
@[simp] theorem isi_it {i : Int} {s : Sto} : fIsi [.int i, .ty "tuple"] s = some (.bl false, s) := rfl
@[simp] theorem isi_is {i : Int} {s : Sto} : fIsi [.int i, .ty "str"] s = some (.bl false, s) := rfl
@[simp] theorem isi_si {x : Str} {s : Sto} : fIsi [.str x, .ty "int"] s = some (.bl false, s) := rfl
@[simp] theorem isi_st {x : Str} {s : Sto} : fIsi [.str x, .ty "tuple"] s = some (.bl false, s) := rfl
theorem rnd_set {s : Sto} {n st k : Nat} {o : DO} (h : Rnd s st k) (ne : n ≠ st) : Rnd (s.set n o) st k := by
  obtain ⟨a, b, c, e, h1, h2⟩ := h
  refine ⟨a, b, c, ?_, h1, h2⟩
  have q := lstAt_eq e
  unfold lstAt
  rw [List.getElem?_set_ne ne, q]
theorem Sm.at {n : Nat} {s s' : Sto} (g : Sm n s s') {i : Nat} {o : DO} (h : s[i]? = some o) (ne : i ≠ n) : s'[i]? = some o := by
  rw [g.2 i (List.getElem?_eq_some_iff.mp h).1 ne]
  exact h
theorem Sm.ins {n m : Nat} {s s' : Sto} {x} (g : Sm n s s') (h : insAt s m = some x) (ne : m ≠ n) : insAt s' m = some x := by
  unfold insAt at h ⊢
  cases e : s[m]? with
  | none => rw [e] at h; cases h
  | some o => rw [g.at e ne]; rw [e] at h; exact h
theorem gr_old {s s' : Sto} (h1 : s.length ≤ s'.length) (h2 : ∀ i, i < s.length → s'[i]? = s[i]?) : Gr s s' := by
  refine ⟨s'.drop s.length, ?_⟩
  apply List.ext_getElem?
  intro i
  by_cases h : i < s.length
  · rw [h2 i h, List.getElem?_append_left h]
  · rw [List.getElem?_append_right (by omega), List.getElem?_drop]
    congr 1
    omega
theorem old_gr {s s' : Sto} (h : Gr s s') {i : Nat} (hi : i < s.length) : s'[i]? = s[i]? := by
  obtain ⟨l, rfl⟩ := h
  exact List.getElem?_append_left hi
theorem enum_mem : ∀ (xs : List D) (k : Nat) (d : D), d ∈ enumD k xs → ∃ (i : Nat) (x : D), i < k + xs.length ∧ x ∈ xs ∧ d = .tup [.int i, x]
  | [], _, _, h => by cases h
  | x :: r, k, d, h => by
    rw [enumD] at h
    rcases List.mem_cons.mp h with rfl | h
    · exact ⟨k, x, by simp, by simp, rfl⟩
    · obtain ⟨i, y, h1, h2, h3⟩ := enum_mem r (k + 1) d h
      exact ⟨i, y, by simp at h1 ⊢; omega, by simp [h2], h3⟩
def AllI (xs : List D) : Prop := xs.length ≤ 63 ∧ ∀ x ∈ xs, ∃ c : Int, x = .int c
theorem lst_app3 {s : Sto} {a b c : DO} {xs : List D} : lstAt ((((s ++ [a]) ++ [b]) ++ [c]) ++ [.lst xs]) (s.length + 1 + 1 + 1) = some xs := by
  have e : s.length + 1 + 1 + 1 = (((s ++ [a]) ++ [b]) ++ [c]).length := by simp
  rw [e]
  exact lstAt_new
theorem pow18 : powOk 10 18 = true := by decide
theorem begin_run (A : Ax) (s : Sto) (c : Int) (k : Nat) (h : k < 100) : ∃ a b : Int, M_u_law_begin A [.int c, .int k] s = some (.ok (.obj s.length), s ++ [.lst [.int a, .int b, .int 0]]) := by
  have l3 : 3 ≤ sizeLine := le_line (by decide)
  have m : mulOk 977 k = true := by unfold mulOk; simp
  have q : ∀ i j : Int, fMaxA [.int i, .int j] s = some (.int (maxI i j), s) := fun i j => rfl
  refine ⟨maxI 0 (c - 10 ^ (18 : Int).toNat), c + 977 * k, ?_⟩
  simp [M_u_law_begin, ds_u_law_begin, startD, fSub, fPow, pow18, q, fAdd, fAddI, orOp, fMul, fMulI, m, l3]
end My

set_option maxHeartbeats 4000000
namespace My
open PySem L2 PyProof.Rows DV
/-! ### the head of a law over a script -/
theorem begin_asg (A : Ax) {s : Sto} {Δ Δ1 : Dn} {g : DGf} {i j : Nat} {c : Int} {k : Nat} (h : k < 100) (hi : dVar i Δ s = some (.ok (.int c), s)) (hj : dVar j Δ s = some (.ok (.int k), s)) (hg : ∀ s', g (.obj s.length) Δ s' = some (Δ1, s')) :
    ∃ s1, dAsg (dCl (argN 2 (M_u_law_begin A)) (dCons (dVar i) (dCons (dVar j) dNil))) g Δ s = some (.nx Δ1, s1) ∧ Gr s s1 ∧ Rnd s1 s.length 100000 := by
  obtain ⟨a, b, hb⟩ := begin_run A s c k h
  exact ⟨_, asg ((cl5 (cn hi (cn hj rfl))).trans ((ag5 rfl).trans hb)) (hg _), Gr.app, ⟨a, b, 0, lstAt_new, Int.le_refl _, by decide⟩⟩
theorem cut_any {xs : List D} (h : AllI xs) (lo hi : Option Int) : AllI (DV.cutD xs lo hi) := by
  unfold DV.cutD
  refine ⟨?_, fun x hx => h.2 x (List.mem_of_mem_drop (List.mem_of_mem_take hx))⟩
  rw [List.length_take, List.length_drop]
  have := h.1
  omega
theorem all_ns {ns : List Int} (h : ns.length ≤ 63) : AllI (ns.map D.int) := ⟨by simpa using h, fun x hx => by
    obtain ⟨c, _, rfl⟩ := List.mem_map.mp hx
    exact ⟨c, rfl⟩⟩
/-- enumerate((script or [5])[:hi]) -/
theorem head_it {ns : List Int} (h : ns.length ≤ 63) {Δ : Dn} {s : Sto} {i d hi : Int} (hv : Δ[0]? = some (some (.fz (ns.map D.int)))) :
    ∃ (m : Nat) (s' : Sto) (xs : List D), AllI xs ∧ lstAt s' m = some xs ∧ Gr s s' ∧ DV.iEnum (dCons (dSl fSlA (dOrT (dVar 0) (dLst (dCons (dC (.int d)) dNil))) dNoPt (dPt (dC (.int hi)))) dNil) Δ s = some (.ok ⟨enumD 0 xs, some (m, xs)⟩, s') := by
  have l1 : 1 ≤ sizeLine := le_line (by decide)
  cases ns with
  | nil =>
    have e0 : lstAt (s ++ [DO.lst [D.int d]]) s.length = some [.int d] := lstAt_new
    have e1 : lstAt ((s ++ [DO.lst [D.int d]]) ++ [DO.lst (DV.cutD [D.int d] none (some hi))]) (s ++ [DO.lst [D.int d]]).length = some (DV.cutD [D.int d] none (some hi)) := lstAt_new
    have el : (s ++ [DO.lst [D.int d]]).length = s.length + 1 := by simp
    refine ⟨(s ++ [DO.lst [D.int d]]).length, (s ++ [DO.lst [D.int d]]) ++ [DO.lst (DV.cutD [D.int d] none (some hi))], DV.cutD [D.int d] none (some hi), cut_any ⟨by simp, fun x hx => ⟨d, by simpa using hx⟩⟩ _ _, e1, Gr.app.trans Gr.app, ?_⟩
    have q : dSl fSlA (dOrT (dVar 0) (dLst (dCons (dC (.int d)) dNil))) dNoPt (dPt (dC (.int hi))) Δ s = some (.ok (.obj (s ++ [DO.lst [D.int d]]).length), (s ++ [DO.lst [D.int d]]) ++ [DO.lst (DV.cutD [D.int d] none (some hi))]) := by
      have t : truD (.fz ([] : List D)) s = some false := rfl
      simp [dSl, dOrT, hv, t, l1, liftS, dNoPt, dPt, fSlA, fSl, e0]
    unfold DV.iEnum
    rw [mbind_ok, cn q rfl]
    simp only [e1]
  | cons n r =>
    have e1 : lstAt (s ++ [DO.lst (DV.cutD ((n :: r).map D.int) none (some hi))]) s.length = some (DV.cutD ((n :: r).map D.int) none (some hi)) := lstAt_new
    refine ⟨s.length, s ++ [DO.lst (DV.cutD ((n :: r).map D.int) none (some hi))], DV.cutD ((n :: r).map D.int) none (some hi), cut_any (all_ns h) _ _, e1, Gr.app, ?_⟩
    have q : dSl fSlA (dOrT (dVar 0) (dLst (dCons (dC (.int d)) dNil))) dNoPt (dPt (dC (.int hi))) Δ s = some (.ok (.obj s.length), s ++ [DO.lst (DV.cutD ((n :: r).map D.int) none (some hi))]) := by
      have t : truD (.fz ((n :: r).map D.int)) s = some true := rfl
      simp only [List.map_cons] at hv t ⊢
      simp [dSl, dOrT, hv, t, liftS, dNoPt, dPt, fSlA, fSl]
    unfold DV.iEnum
    rw [mbind_ok, cn q rfl]
    simp only [e1]
/-- cuts -/
theorem cut_hi (xs : List D) (k : Nat) : DV.cutD xs none (some (k : Int)) = xs.take k := by
  unfold DV.cutD
  have h1 : HT.sIx xs.length 0 none = 0 := rfl
  rw [h1, HT.sIx_nat, List.drop_zero, Nat.sub_zero]
  by_cases c : k ≤ xs.length
  · rw [Nat.min_eq_left c]
  · rw [Nat.min_eq_right (by omega), List.take_of_length_le (Nat.le_refl _), List.take_of_length_le (by omega)]
theorem cut_lo (xs : List D) (k : Nat) : DV.cutD xs (some (k : Int)) none = xs.drop k := by
  unfold DV.cutD
  have h1 : HT.sIx xs.length xs.length none = xs.length := rfl
  rw [h1, HT.sIx_nat]
  by_cases c : k ≤ xs.length
  · rw [Nat.min_eq_left c, List.take_of_length_le (by rw [List.length_drop]; exact Nat.le_refl _)]
  · rw [Nat.min_eq_right (by omega), Nat.sub_self, List.drop_eq_nil_of_le (Nat.le_refl _), List.drop_eq_nil_of_le (by omega)]
    rfl
theorem addL {n m : Nat} {s : Sto} {xs ys : List D} (h1 : lstAt s n = some xs) (h2 : lstAt s m = some ys) (hz : xs.length + ys.length ≤ 1000) : fAdd (.obj n) (.obj m) s = some (.obj s.length, s ++ [.lst (xs ++ ys)]) := by
  have z := le_line hz
  simp [fAdd, orOp, fAddI, fAddS, fAddL, h1, h2, z]
theorem slL {dl dh : DPt} {da : DX} {Δ : Dn} {s s1 : Sto} {n : Nat} {xs : List D} {lo hi : Option Int} (h : da Δ s = some (.ok (.obj n), s1)) (h1 : dl Δ s1 = some (.ok lo, s1)) (h2 : dh Δ s1 = some (.ok hi, s1)) (e : lstAt s1 n = some xs) :
    dSl fSlA da dl dh Δ s = some (.ok (.obj s1.length), s1 ++ [.lst (DV.cutD xs lo hi)]) := by
  unfold dSl
  rw [mbind_ok, h]
  simp only [mbind_ok, h1, h2]
  simp [liftS, fSlA, fSl, e]
end My

set_option maxHeartbeats 4000000
namespace My
open PySem L2 PyProof.Rows DV
/-! ### more of runs put together; lists of ints compared -/
theorem All2.map_of {α β γ : Type} {R : β → γ → Prop} {g : α → β} {f : α → γ} : ∀ {l : List α} {r : List γ}, All2 R (l.map g) r → (∀ a ∈ l, ∀ y, R (g a) y → y = f a) → r = l.map f
  | [], _, .nil, _ => rfl
  | a :: l, _, .cons h t, q => by
    rw [q a (by simp) _ h, All2.map_of t fun b hb => q b (by simp [hb])]
    rfl
theorem intsOf_map : ∀ l : List Int, intsOf (l.map D.int) = some l
  | [] => rfl
  | i :: r => by simp [intsOf, intsOf_map r]
theorem flat_one {α β : Type} (f : α → β) : ∀ l : List α, (l.map fun a => [f a]).flatten = l.map f
  | [] => rfl
  | a :: r => by simp [flat_one f r]
theorem bl_same {b c : Bool} {s : Sto} (h : b = c) : (some (D.bl b, s) : Option (D × Sto)) = some (.bl c, s) := by rw [h]
theorem all2_spec {T : Type} {Q : T → D → Prop} {R : D → List D → Prop} {f : T → D} : ∀ {ts : List T} {r : List D} {yss : List (List D)}, All2 Q ts r → All2 R r yss → (∀ t d ys, Q t d → R d ys → ys = [f t]) → yss.flatten = ts.map f
  | _, _, _, .nil, .nil, _ => rfl
  | _, _, _, .cons q qs, .cons r rs, h => by
    rw [List.flatten_cons, h _ _ _ q r, List.map_cons, all2_spec qs rs h]
    rfl
theorem all2_mem {T : Type} {Q : T → D → Prop} : ∀ {ts : List T} {r : List D}, All2 Q ts r → ∀ d ∈ r, ∃ t, Q t d
  | _, _, .cons q qs, d, hd => by
    rcases List.mem_cons.mp hd with rfl | hd
    · exact ⟨_, q⟩
    · exact all2_mem qs d hd
theorem boolsOf_map : ∀ bs : List Bool, boolsOf (bs.map D.bl) = some bs
  | [] => rfl
  | b :: r => by
    show (boolsOf (r.map D.bl)).map (b :: ·) = _
    rw [boolsOf_map r]
    rfl
theorem fAll_run {s : Sto} {p : Nat} {bs : List Bool} (e : lstAt s p = some (bs.map D.bl)) : fAll [.obj p] s = some (.bl (bs.all id), s) := by
  unfold fAll fBs
  simp only [e, boolsOf_map]
theorem and5 {a b : DX} {Δ : Dn} {s s1 s2 : Sto} {d : D} (h1 : a Δ s = some (.ok (.bl true), s1)) (h2 : b Δ s1 = some (.ok d, s2)) : dAndT a b Δ s = some (.ok d, s2) := by
  rw [dAndT_eq, mbind_ok, h1]
  show mbind (dTru (.bl true)) (fun c => if c = true then b Δ else mret (.bl true)) s1 = _
  rw [mbind_ok]
  show (if true = true then b Δ else mret (.bl true)) s1 = _
  rw [if_pos rfl]
  exact h2
theorem andF5 {a b : DX} {Δ : Dn} {s s1 : Sto} (h1 : a Δ s = some (.ok (.bl false), s1)) : dAndT a b Δ s = some (.ok (.bl false), s1) := by
  rw [dAndT_eq, mbind_ok, h1]
  rfl
theorem no_t {t : DT} {Δ : Dn} {s s1 : Sto} {b : Bool} (h : t Δ s = some (.ok b, s1)) : dNot t Δ s = some (.ok (!b), s1) := by
  rw [dNot_eq, mbind_ok, h]
  rfl
theorem eqvAll_ints : ∀ l m : List Int, PyData.eqvAll (l.map PyData.int) (m.map PyData.int) = decide (l = m)
  | [], [] => rfl
  | [], _ :: _ => rfl
  | _ :: _, [] => rfl
  | a :: l, b :: m => by
    have e : PyData.eqvAll ((a :: l).map PyData.int) ((b :: m).map PyData.int) = ((a == b) && PyData.eqvAll (l.map PyData.int) (m.map PyData.int)) := rfl
    rw [e, eqvAll_ints l m]
    by_cases c : a = b <;> by_cases d : l = m <;> simp [c, d]
theorem lay_ints : ∀ l : List Int, PyData.canLayAll0 (l.map PyData.int) = true
  | [] => rfl
  | i :: l => by
    have h := lay_ints l
    have h0 : PyData.canLay0 (.int i) = true := rfl
    simp [PyData.canLayAll0, h0, h]
theorem dep_ints : ∀ l : List Int, PyData.depthAll (l.map PyData.int) ≤ 1
  | [] => by simp [PyData.depthAll]
  | i :: l => by
    have h := dep_ints l
    simp only [List.map_cons, PyData.depthAll]
    have h0 : (PyData.int i).depth ≤ 1 := by simp [PyData.depth]
    omega
theorem py_ints (s : Sto) : ∀ l : List Int, omap (toPy s 63) (l.map D.int) = some (l.map PyData.int)
  | [] => rfl
  | i :: l => by
    have q : toPy s 63 (.int i) = some (.int i) := rfl
    simp [omap, q, py_ints s l]
theorem toPy_ints {s : Sto} {p : Nat} {l : List Int} (e : lstAt s p = some (l.map D.int)) : toPy s 64 (.obj p) = some (.list (l.map PyData.int)) := by
  show (match lstAt s p with | some xs => (omap (toPy s 63) xs).map PyData.list | none => none) = _
  rw [e]
  simp only [py_ints s l]
  rfl
theorem shp_ints (l : List Int) : SeqAt.shaped (.list (l.map PyData.int)) = true := by
  have d := dep_ints l
  unfold SeqAt.shaped
  rw [decide_eq_true (show (PyData.list _).depth ≤ 64 by rw [PyData.depth]; omega)]
  simp [PyData.canLay0, lay_ints l]
theorem py2_ints {s : Sto} {p q : Nat} {l m : List Int} (e1 : lstAt s p = some (l.map D.int)) (e2 : lstAt s q = some (m.map D.int)) : py2 s (.obj p) (.obj q) = some (.list (l.map PyData.int), .list (m.map PyData.int)) := by
  unfold py2
  rw [toPy_ints e1, toPy_ints e2]
  simp only [shp_ints, Bool.and_self, if_true]
theorem fEq_ints {s : Sto} {p q : Nat} {l m : List Int} (e1 : lstAt s p = some (l.map D.int)) (e2 : lstAt s q = some (m.map D.int)) : fEq (.obj p) (.obj q) s = some (.bl (decide (l = m)), s) := by
  unfold fEq
  rw [py2_ints e1 e2]
  refine bl_same ?_
  rw [PyData.eqv]
  exact eqvAll_ints l m
theorem fNe_ints {s : Sto} {p q : Nat} {l m : List Int} (e1 : lstAt s p = some (l.map D.int)) (e2 : lstAt s q = some (m.map D.int)) : fNe (.obj p) (.obj q) s = some (.bl (!decide (l = m)), s) := by
  unfold fNe
  rw [py2_ints e1 e2]
  refine bl_same ?_
  rw [PyData.eqv, eqvAll_ints l m]
theorem len_eq {a b : Nat} : ((a : Int) == b) = decide (a = b) := by
  by_cases c : a = b
  · simp [c]
  · have : ¬ ((a : Int) = b) := by omega
    simp [c, this]
abbrev drw (A : Ax) (i : Nat) (n : DX) : DX := dCl (argN 2 (M_u_law_draw A)) (dCons (dVar i) (dCons n dNil))
section
variable {A : Ax} {s : Sto} {st S K k B : Nat}
theorem pick_gen {da : DA} {Δ : Dn} {xs : List D} {i : Nat} {s1 : Sto} (hi : Δ[i]? = some (some (.obj st))) (hx : da Δ s = some (.ok xs, s1)) (h : Rnd s1 st (K + 1)) (h0 : 0 < xs.length) (h1 : xs.length < 1000) : ∃ d s', dCl (argN 2 (M_u_law_pick A)) (dCons (dVar i) (dCons (dLst da) dNil)) Δ s = some (.ok d, s') ∧ d ∈ xs ∧ Rnd s' st K ∧ Sm st s1 s' := by
  have lt := h.lt
  obtain ⟨d, s', p1, p2, p3, p4⟩ := pick A (s := s1 ++ [.lst xs]) (j := s1.length) (xs := xs) h.app lstAt_new (by omega) h0 (by omega)
  have v : dVar i Δ s = some (.ok (.obj st), s) := by rw [dVar_eq, hi]
  exact ⟨d, s', (cl5 (xs := [.obj st, .obj s1.length]) (cn v (cn (ls hx (by omega)) rfl))).trans ((ag5 rfl).trans p1), p2, p3, Sm.app.trans p4⟩
theorem drw_run {Δ : Dn} {i m : Nat} {n : DX} (hi : Δ[i]? = some (some (.obj st))) (hn : n Δ s = some (.ok (.int (m : Nat)), s)) (h : Rnd s st (K + 1)) (h0 : 0 < m) (h1 : m < 100000) : ∃ (v : Nat) (s' : Sto), drw A i n Δ s = some (.ok (.int (v : Nat)), s') ∧ v < m ∧ Rnd s' st K ∧ Sm st s s' := by
  obtain ⟨v, s', hd, v0, v1, r, sm⟩ := draw A (m := (m : Nat)) h (by omega) (by omega)
  obtain ⟨c, rfl⟩ : ∃ c : Nat, v = c := ⟨v.toNat, by omega⟩
  have w : dVar i Δ s = some (.ok (.obj st), s) := by rw [dVar_eq, hi]
  exact ⟨c, s', (cl5 (xs := [.obj st, .int (m : Nat)]) (cn w (cn hn rfl))).trans ((ag5 rfl).trans hd), by omega, r, sm⟩
end
theorem tuple_obj {s : Sto} {p : Nat} {xs : List D} (e : lstAt s p = some xs) : fTuple [.obj p] s = some (.tup xs, s) := by
  unfold fTuple
  simp only [e]
theorem isi_tup (xs : List D) (s : Sto) : fIsi [.tup xs, .ty "tuple"] s = some (.bl true, s) := rfl
theorem fLen_tup (xs : List D) (s : Sto) (h : xs.length ≤ 1000) : fLen [.tup xs] s = some (.int xs.length, s) := by
  simp [fLen, le_line h]
theorem all_map (f : α → Bool) : ∀ l : List α, (l.map f).all id = l.all f
  | [] => rfl
  | a :: l => by simp
theorem fNe_same {x y : D} {s : Sto} {p : PyData} (hx : toPy s 64 x = some p) (hy : toPy s 64 y = some p) (h : SeqAt.shaped p = true) : fNe x y s = some (.bl false, s) := by
  have e := SeqAt.eqv_refl p (SeqAt.canLay_of_shaped h)
  unfold fNe py2
  rw [hx, hy]
  simp [h, e]
theorem sub5 {x y : Int} {s : Sto} : fSub (.int x) (.int y) s = some (.int (x - y), s) := rfl
theorem add5 {x y : Int} {s : Sto} : fAdd (.int x) (.int y) s = some (.int (x + y), s) := by simp [fAdd, orOp, fAddI]
theorem mulSm1 {x y : Int} (h : x.natAbs < 2 ^ 64) : mulOk x y = true := by unfold mulOk; rw [decide_eq_true h]; rfl
theorem mul5 {x y : Int} {s : Sto} (h : x.natAbs < 2 ^ 64) : fMul (.int x) (.int y) s = some (.int (x * y), s) := by simp [fMul, orOp, fMulI, mulSm1 h]
theorem mod5 {x y : Int} {s : Sto} (h : 0 < y) : fMod (.int x) (.int y) s = some (.int (x % y), s) := by
  have m : modOk x y = true := by unfold modOk; simp; omega
  unfold fMod
  rw [fI_eq, if_pos m, Int.fmod_eq_emod_of_nonneg _ (Int.le_of_lt h)]
theorem divw5 {x y : Int} {s : Sto} (h : 0 < y) (hy : y < 2 ^ 100) : fDivW (.int x) (.int y) s = some (.int (x / y), s) := by
  unfold fDivW
  rw [fI_eq, if_pos (divW_ok x h hy)]
theorem ix3_0 {x y z : D} {s : Sto} : fIx (.tup [x, y, z]) (.int 0) s = some (x, s) := rfl
theorem ix3_1 {x y z : D} {s : Sto} : fIx (.tup [x, y, z]) (.int 1) s = some (y, s) := rfl
theorem ix3_2 {x y z : D} {s : Sto} : fIx (.tup [x, y, z]) (.int 2) s = some (z, s) := rfl
theorem seq_ex {a b : DS} {Δ Δ1 : Dn} {s s1 : Sto} {x : Xc} (h : a Δ s = some (.ex x Δ1, s1)) : dSeq a b Δ s = some (.ex x Δ1, s1) := by rw [dSeq_eq, h]
theorem fn_ex {n : Nat} {b : DS} {xs : List D} {s s1 : Sto} {x : Xc} {Δ : Dn} (h : b (startD n xs) s = some (.ex x Δ, s1)) : runFn n b xs s = some (.error x, s1) := by rw [runFn_eq, h]
theorem par5' {i j : Nat} {da : DA} {Δ : Dn} {s s1 : Sto} {x y : D} (h : da Δ s = some (.ok [x, y], s1)) : dPar i j da Δ s = some (.nx ((Δ.set i (some x)).set j (some y)), s1) := by rw [dPar_eq, sbind_eq, h]
theorem fInt_int (i : Int) (s : Sto) : fInt [.int i] s = some (.int i, s) := rfl
/-- a list of ints as data -/
def iL (l : List Int) : List D := l.map D.int
end My

set_option maxHeartbeats 4000000
namespace My
open PySem L2 PyProof.Rows DV
/-! ### numbers: common multiples, residues, what is free -/
theorem bez (a b : Nat) : ∃ x y : Int, (a : Int) * x + b * y = ((Nat.gcd a b : Nat) : Int) := by
  refine Nat.gcd.induction (P := fun a b => ∃ x y : Int, (a : Int) * x + b * y = ((Nat.gcd a b : Nat) : Int)) a b ?_ ?_
  · intro n
    exact ⟨0, 1, by simp⟩
  · intro m n hm ⟨x, y, h⟩
    have e : Nat.gcd m n = Nat.gcd (n % m) m := Nat.gcd_rec m n
    refine ⟨y - ((n / m : Nat) : Int) * x, x, ?_⟩
    rw [e, ← h]
    have q : (n : Int) = m * ((n / m : Nat) : Int) + ((n % m : Nat) : Int) := by
      have := Nat.div_add_mod n m
      rw [← Int.natCast_mul, ← Int.natCast_add, this]
    have q2 : (n : Int) * x = m * (((n / m : Nat) : Int) * x) + ((n % m : Nat) : Int) * x := by
      conv => lhs; rw [q]
      rw [Int.add_mul, Int.mul_assoc]
    rw [q2, Int.mul_sub]
    omega
/-- the greatest common divisor of two ints above 0 -/
def gI (m n : Int) : Int := ((Nat.gcd m.natAbs n.natAbs : Nat) : Int)
theorem gI_pos {m : Int} (n : Int) (h : 0 < m) : 0 < gI m n := by
  unfold gI
  have : 0 < Nat.gcd m.natAbs n.natAbs := Nat.gcd_pos_of_pos_left _ (by omega)
  omega
theorem gI_left (m n : Int) : gI m n ∣ m := by
  unfold gI
  exact Int.dvd_natAbs.mp (Int.natCast_dvd_natCast.mpr (Nat.gcd_dvd_left _ _))
theorem gI_right (m n : Int) : gI m n ∣ n := by
  unfold gI
  exact Int.dvd_natAbs.mp (Int.natCast_dvd_natCast.mpr (Nat.gcd_dvd_right _ _))
theorem gI_le {m : Int} (n : Int) (h : 0 < m) : gI m n ≤ m := Int.le_of_dvd h (gI_left m n)
theorem crt {m n a b : Int} (hm : 0 < m) (hn : 0 < n) (h : gI m n ∣ b - a) : ∃ t, m ∣ t - a ∧ n ∣ t - b := by
  obtain ⟨x, y, e⟩ := bez m.natAbs n.natAbs
  have em : ((m.natAbs : Nat) : Int) = m := by omega
  have en : ((n.natAbs : Nat) : Int) = n := by omega
  rw [em, en] at e
  obtain ⟨q, hq⟩ := h
  have e' : gI m n = m * x + n * y := e.symm
  refine ⟨a + m * (x * q), ⟨x * q, by omega⟩, ⟨-(y * q), ?_⟩⟩
  have e2 : b - a = m * (x * q) + n * (y * q) := by
    rw [hq, e', Int.add_mul, Int.mul_assoc, Int.mul_assoc]
  rw [Int.mul_neg]
  omega
/-- a voice sounds at t -/
def Snd (m : Int) (as : List Int) (e t : Int) : Prop := ∃ a ∈ as, e + a ≤ t ∧ (t - (e + a)) % m = 0
theorem not_before {m a e t : Int} (hm : 0 < m) (ha : a < m) (ht : e ≤ t) (h : m ∣ t - (e + a)) : e + a ≤ t := by
  obtain ⟨q, hq⟩ := h
  by_cases c : 0 ≤ q
  · have := Int.mul_nonneg (Int.le_of_lt hm) c
    omega
  · have : m * q ≤ m * (-1) := Int.mul_le_mul_of_nonneg_left (by omega) (Int.le_of_lt hm)
    omega
theorem meet_iff {m n e f L : Int} {as bs : List Int} (hm : 0 < m) (hn : 0 < n) (hL : 0 < L) (mL : m ∣ L) (nL : n ∣ L) (ha : ∀ a ∈ as, 0 ≤ a ∧ a < m) (hb : ∀ b ∈ bs, 0 ≤ b ∧ b < n) :
    (∃ t, maxI e f ≤ t ∧ t < maxI e f + L ∧ Snd m as e t ∧ Snd n bs f t) ↔ ∃ a ∈ as, ∃ b ∈ bs, gI m n ∣ e - f + a - b := by
  have me : e ≤ maxI e f ∧ f ≤ maxI e f := by unfold maxI; split <;> omega
  constructor
  · rintro ⟨t, _, _, ⟨a, ha1, _, h1⟩, ⟨b, hb1, _, h2⟩⟩
    refine ⟨a, ha1, b, hb1, ?_⟩
    have d1 : gI m n ∣ t - (e + a) := Int.dvd_trans (gI_left m n) (Int.dvd_of_emod_eq_zero h1)
    have d2 : gI m n ∣ t - (f + b) := Int.dvd_trans (gI_right m n) (Int.dvd_of_emod_eq_zero h2)
    have d3 := Int.dvd_sub d2 d1
    have e3 : t - (f + b) - (t - (e + a)) = e - f + a - b := by omega
    rwa [e3] at d3
  · rintro ⟨a, ha1, b, hb1, h⟩
    obtain ⟨t0, c1, c2⟩ := crt (a := f + b) (b := e + a) (m := n) (n := m) hn hm (by
      have e1 : gI n m = gI m n := by unfold gI; rw [Nat.gcd_comm]
      have e2 : e + a - (f + b) = e - f + a - b := by omega
      rw [e1, e2]
      exact h)
    obtain ⟨a0, a1⟩ := ha a ha1
    obtain ⟨b0, b1⟩ := hb b hb1
    have r0 := Int.emod_nonneg (t0 - maxI e f) (Int.ne_of_gt hL)
    have r1 := Int.emod_lt_of_pos (t0 - maxI e f) hL
    have dv : ∀ x : Int, x ∣ L → x ∣ maxI e f + (t0 - maxI e f) % L - t0 := fun x hx => by
      have : maxI e f + (t0 - maxI e f) % L - t0 = -(L * ((t0 - maxI e f) / L)) := by
        have := Int.mul_ediv_add_emod (t0 - maxI e f) L
        omega
      rw [this]
      exact Int.dvd_neg.mpr (Int.dvd_trans hx (Int.dvd_mul_right _ _))
    have k1 : m ∣ maxI e f + (t0 - maxI e f) % L - (e + a) := by
      have := Int.dvd_add (dv m mL) c2
      have e1 : maxI e f + (t0 - maxI e f) % L - t0 + (t0 - (e + a)) = maxI e f + (t0 - maxI e f) % L - (e + a) := by omega
      rwa [e1] at this
    have k2 : n ∣ maxI e f + (t0 - maxI e f) % L - (f + b) := by
      have := Int.dvd_add (dv n nL) c1
      have e1 : maxI e f + (t0 - maxI e f) % L - t0 + (t0 - (f + b)) = maxI e f + (t0 - maxI e f) % L - (f + b) := by omega
      rwa [e1] at this
    exact ⟨maxI e f + (t0 - maxI e f) % L, by omega, by omega, ⟨a, ha1, not_before hm a1 (by omega) k1, Int.emod_eq_zero_of_dvd k1⟩, ⟨b, hb1, not_before hn b1 (by omega) k2, Int.emod_eq_zero_of_dvd k2⟩⟩
theorem mod_is {x w g : Int} (h : 0 < g) : x % g = w % g ↔ g ∣ x - w := by
  constructor
  · intro e
    exact ⟨x / g - w / g, by
      have h1 := Int.mul_ediv_add_emod x g
      have h2 := Int.mul_ediv_add_emod w g
      rw [Int.mul_sub]
      omega⟩
  · rintro ⟨q, hq⟩
    have : x = w + g * q := by omega
    rw [this, Int.add_mul_emod_self_left]
/-- the delays at which two voices clash -/
def clash (m : Int) (as : List Int) (e n : Int) (bs : List Int) (f : Int) : List Int := usort (as.flatMap fun a => bs.map fun b => (e - f + a - b) % gI m n)
theorem clash_mem {m n e f k : Int} {as bs : List Int} : k ∈ clash m as e n bs f ↔ ∃ a ∈ as, ∃ b ∈ bs, k = (e - f + a - b) % gI m n := by
  unfold clash
  rw [usort_mem, List.mem_flatMap]
  constructor
  · rintro ⟨a, ha, h⟩
    obtain ⟨b, hb, rfl⟩ := List.mem_map.mp h
    exact ⟨a, ha, b, hb, rfl⟩
  · rintro ⟨a, ha, b, hb, rfl⟩
    exact ⟨a, ha, List.mem_map.mpr ⟨b, hb, rfl⟩⟩
theorem clash_in {m n e f k : Int} {as bs : List Int} (hm : 0 < m) (h : k ∈ clash m as e n bs f) : 0 ≤ k ∧ k < gI m n := by
  obtain ⟨a, _, b, _, rfl⟩ := clash_mem.mp h
  have g := gI_pos n hm
  exact ⟨Int.emod_nonneg _ (by omega), Int.emod_lt_of_pos _ g⟩
theorem clash_of {m n e f w : Int} {as bs : List Int} (hm : 0 < m) : w % gI m n ∈ clash m as e n bs f ↔ ∃ a ∈ as, ∃ b ∈ bs, gI m n ∣ e - (f + w) + a - b := by
  have g := gI_pos n hm
  rw [clash_mem]
  have q : ∀ a b : Int, w % gI m n = (e - f + a - b) % gI m n ↔ gI m n ∣ e - (f + w) + a - b := fun a b => by
    rw [eq_comm, mod_is g]
    have : e - f + a - b - w = e - (f + w) + a - b := by omega
    rw [this]
  constructor
  · rintro ⟨a, ha, b, hb, h⟩
    exact ⟨a, ha, b, hb, (q a b).mp h⟩
  · rintro ⟨a, ha, b, hb, h⟩
    exact ⟨a, ha, b, hb, (q a b).mpr h⟩
theorem erase_mem {l : List Int} {a b : Int} (hb : b ∈ l) (ne : b ≠ a) : b ∈ l.erase a := (List.mem_erase_of_ne ne).mpr hb
theorem pig : ∀ (l m : List Int), l.Nodup → (∀ a ∈ l, a ∈ m) → l.length ≤ m.length
  | [], _, _, _ => Nat.zero_le _
  | a :: l, m, nd, h => by
    obtain ⟨n1, n2⟩ := List.nodup_cons.mp nd
    have ih := pig l (m.erase a) n2 fun b hb => erase_mem (h b (by simp [hb])) fun z => n1 (z ▸ hb)
    have lm := List.length_erase_of_mem (h a (by simp))
    have : 0 < m.length := List.length_pos_of_mem (h a (by simp))
    rw [List.length_cons]
    omega
/-- 0, 1, .. as ints -/
def upI (n : Nat) : List Int := (List.range n).map fun (i : Nat) => (i : Int)
theorem upI_mem {n : Nat} {k : Int} : k ∈ upI n ↔ 0 ≤ k ∧ k < n := by
  unfold upI
  rw [List.mem_map]
  constructor
  · rintro ⟨i, hi, rfl⟩
    have := List.mem_range.mp hi
    omega
  · intro h
    exact ⟨k.toNat, List.mem_range.mpr (by omega), by omega⟩
theorem found_all {F : List Int} {g : Int} (nd : F.Nodup) (h : ∀ k ∈ F, 0 ≤ k ∧ k < g) (hl : (F.length : Int) = g) {r : Int} (h0 : 0 ≤ r) (h1 : r < g) : r ∈ F := by
  apply Classical.byContradiction
  intro c
  have := pig (r :: F) (upI g.toNat) (List.nodup_cons.mpr ⟨c, nd⟩) fun a ha => by
    rw [upI_mem]
    rcases List.mem_cons.mp ha with rfl | ha
    · omega
    · have := h a ha
      omega
  unfold upI at this
  simp at this
  omega
theorem found_le {F : List Int} {g : Int} (nd : F.Nodup) (h0 : 0 < g) (h : ∀ k ∈ F, 0 ≤ k ∧ k < g) : (F.length : Int) ≤ g := by
  have := pig F (upI g.toNat) nd fun a ha => by
    rw [upI_mem]
    have := h a ha
    omega
  unfold upI at this
  simp at this
  omega
theorem found_free {F : List Int} {g : Int} (nd : F.Nodup) (hl : (F.length : Int) < g) (d : Int) : ∃ i : Nat, i ≤ F.length ∧ (d + i) % g ∉ F := by
  apply Classical.byContradiction
  intro c
  have all : ∀ i : Nat, i ≤ F.length → (d + i) % g ∈ F := fun i hi => Classical.byContradiction fun z => c ⟨i, hi, z⟩
  have g0 : 0 < g := by omega
  have := pig ((List.range (F.length + 1)).map fun (i : Nat) => (d + i) % g) F (by
    refine List.pairwise_map.mpr (List.pairwise_lt_range.imp_of_mem fun {i j} hi hj lt e => ?_)
    have li := List.mem_range.mp hi
    have lj := List.mem_range.mp hj
    obtain ⟨q, hq⟩ := (mod_is g0).mp e
    have e2 : d + i - (d + j) = (i : Int) - j := by omega
    rw [e2] at hq
    by_cases c0 : 0 ≤ q
    · have := Int.mul_nonneg (Int.le_of_lt g0) c0
      omega
    · have : g * q ≤ g * (-1) := Int.mul_le_mul_of_nonneg_left (by omega) (Int.le_of_lt g0)
      omega) fun a ha => by
    obtain ⟨i, hi, rfl⟩ := List.mem_map.mp ha
    exact all i (by have := List.mem_range.mp hi; omega)
  simp at this
  omega
end My

set_option maxHeartbeats 4000000
namespace My
open PySem L2 PyProof.Rows DV
/-! ### voices judged -/
structure Vo where
  m : Int
  as : List Int
  e : Int
def Vo.d (v : Vo) : D := .tup [.int v.m, .tup (v.as.map D.int), .int v.e]
def adjI (as : List Int) : Bool := (as.zip (as.drop 1)).all fun z => decide (z.1 < z.2)
def in01 (m a : Int) : Bool := decide (0 ≤ a) && decide (a < m)
def voB (v : Vo) : Bool := (decide (1 ≤ v.m) && decide (v.m ≤ 1000000000000)) && (decide (0 ≤ v.e) && decide (v.e ≤ 1000000000000000)) && (decide (1 ≤ v.as.length) && decide (v.as.length ≤ 24)) && v.as.all (in01 v.m) && adjI v.as
theorem chain_ll (a b c : DX) {Δ : Dn} {s : Sto} {x y z : Int} (ha : ∀ s, a Δ s = some (.ok (.int x), s)) (hb : ∀ s, b Δ s = some (.ok (.int y), s)) (hc : ∀ s, c Δ s = some (.ok (.int z), s)) :
    dChain fLe fLe a b c Δ s = some (.ok (.bl (decide (x ≤ y) && decide (y ≤ z))), s) ∧ dChain fLe fLt a b c Δ s = some (.ok (.bl (decide (x ≤ y) && decide (y < z))), s) := by
  by_cases h : x ≤ y <;> simp [dChain, ha, hb, hc, fLe, fLt, h]
theorem guard5 {t : DT} {Δ : Dn} {s s1 : Sto} {b : Bool} {R : DS} (h : t Δ s = some (.ok b, s1)) : dSeq (dIfS t (dRet (dC (.bl false))) dNx) R Δ s = if b = true then some (.rt (.bl false), s1) else R Δ s1 := by
  cases b with
  | true => exact seq_rt (yes5 h rfl)
  | false => exact seq_nx (no5 h)
section
variable {A : Ax} {s : Sto}
theorem entry_run (A : Ax) (s : Sto) (e : Int) : M_u_is_entry A [.int e] s = some (.ok (.bl (decide (0 ≤ e) && decide (e ≤ 1000000000000000))), s) := by
  have hs : startD 1 [D.int e] = [some (.int e)] := rfl
  have n : dCl (argN 1 (M_is_number A)) (dCons (dVar 0) dNil) [some (.int e)] s = some (.ok (.bl true), s) := (cl5 (xs := [.int e]) (s1 := s) (cn (s1 := s) rfl rfl)).trans ((ag5 rfl).trans (isnum_int A e s))
  have c := (chain_ll (dC (.int 0)) (dVar 0) (dC (.int 1000000000000000)) (Δ := [some (D.int e)]) (s := s) (x := 0) (y := e) (z := 1000000000000000) (fun _ => rfl) (fun _ => rfl) (fun _ => rfl)).1
  refine fn_rt ?_
  unfold ds_u_is_entry
  rw [hs, dRet_eq, sbind_eq, and5 n c]
abbrev q1t : DT := dOr (dNot (dTruth (dCB fIsi (dCons (dVar 0) (dCons (dC (.ty "tuple")) dNil))))) (dTest (dOp fNe (dCB fLen (dCons (dVar 0) dNil)) (dC (.int 3))))
abbrev q2s : DS := dAsg (dVar 0) (gTp 3 (gsCons (gN 1) (gsCons (gN 2) (gsCons (gN 3) gsNil))))
abbrev q3t (A : Ax) : DT := dOr (dNot (dTruth (dCl (argN 1 (M_is_number A)) (dCons (dVar 1) dNil)))) (dOr (dNot (dTest (dChain fLe fLe (dC (.int 1)) (dVar 1) (dC (.int 1000000000000))))) (dNot (dTruth (dCl (argN 1 (M_u_is_entry A)) (dCons (dVar 3) dNil)))))
abbrev q4t : DT := dOr (dNot (dTruth (dCB fIsi (dCons (dVar 2) (dCons (dC (.ty "tuple")) dNil))))) (dNot (dTest (dChain fLe fLe (dC (.int 1)) (dCB fLen (dCons (dVar 2) dNil)) (dC (.int 24)))))
abbrev q5e (A : Ax) : DX := dAndT (dCl (argN 1 (M_is_number A)) (dCons (dVar 4) dNil)) (dChain fLe fLt (dC (.int 0)) (dVar 4) (dVar 1))
abbrev q5x (A : Ax) : DX := dLc [4] (iSeqT (dVar 2)) (gN 4) dYes (q5e A)
abbrev q6x : DX := dLc [4, 5] (iZipM (dCons (dVar 2) (dCons (dSl fSlA (dVar 2) (dPt (dC (.int 1))) dNoPt) dNil))) (gTp 2 (gsCons (gN 4) (gsCons (gN 5) gsNil))) dYes (dOp fLt (dVar 4) (dVar 5))
abbrev noS (t : DT) : DS := dIfS t (dRet (dC (.bl false))) dNx
theorem ds_voice_eq (A : Ax) : ds_u_is_voice A = dSeq (noS q1t) (dSeq q2s (dSeq (noS (q3t A)) (dSeq (noS q4t) (dSeq (noS (dNot (dTruth (dCB fAll (dCons (q5x A) dNil))))) (dRet (dCB fAll (dCons q6x dNil))))))) := rfl
theorem or_t {t u : DT} {Δ : Dn} {s s1 s2 : Sto} {a b : Bool} (h1 : t Δ s = some (.ok a, s1)) (h2 : s2 = s1 ∧ u Δ s1 = some (.ok b, s1)) : dOr t u Δ s = some (.ok (a || b), s1) := by
  cases a with
  | true => exact ort5 h1
  | false => exact (or5 h1).trans h2.2
theorem q5_run (A : Ax) (s : Sto) (v : Vo) (hz : v.as.length ≤ 900) : ∃ s', q5x A [some v.d, some (.int v.m), some (.tup (v.as.map D.int)), some (.int v.e), none, none] s = some (.ok (.obj s.length), s') ∧ Gr s s' ∧ lstAt s' s.length = some ((v.as.map (in01 v.m)).map D.bl) := by
  have hi : iSeqT (dVar 2) [some v.d, some (.int v.m), some (.tup (v.as.map D.int)), some (.int v.e), none, none] s = some (.ok ⟨v.as.map D.int, none⟩, s) := rfl
  obtain ⟨s', yss, e1, e2, e3, e4⟩ := lc_pure (I := ⟨v.as.map D.int, none⟩) (g := gN 4) (tt := dYes) (de := q5e A) (Δ := [some v.d, some (.int v.m), some (.tup (v.as.map D.int)), some (.int v.e), none, none]) (s := s) (fun d ys => ∀ a : Int, d = D.int a → ys = [.bl (in01 v.m a)]) (fun s' g => rfl) (fun d s1 hd g1 => by
    obtain ⟨a, ha, rfl⟩ := List.mem_map.mp hd
    have n : dCl (argN 1 (M_is_number A)) (dCons (dVar 4) dNil) [some v.d, some (.int v.m), some (.tup (v.as.map D.int)), some (.int v.e), some (.int a), none] s1 = some (.ok (.bl true), s1) := (cl5 (xs := [.int a]) (s1 := s1) (cn (s1 := s1) rfl rfl)).trans ((ag5 rfl).trans (isnum_int A a s1))
    have c := (chain_ll (dC (.int 0)) (dVar 4) (dVar 1) (Δ := [some v.d, some (.int v.m), some (.tup (v.as.map D.int)), some (.int v.e), some (.int a), none]) (s := s1) (x := 0) (y := a) (z := v.m) (fun _ => rfl) (fun _ => rfl) (fun _ => rfl)).2
    exact ⟨_, rfl, .inr ⟨s1, _, s1, rfl, and5 n c, Gr.refl _, fun b hb => by cases hb; rfl⟩⟩) (le_line (by show (v.as.map D.int).length ≤ 1000; rw [List.length_map]; omega))
  have e5 : yss = v.as.map fun a => [D.bl (in01 v.m a)] := All2.map_of (g := D.int) e3 fun a ha y q => q a rfl
  rw [e5, flat_one] at e2
  exact ⟨s', lc_of hi e1, e4, by rw [e2, List.map_map]; rfl⟩
theorem q6_run (s : Sto) (v : Vo) (hz : v.as.length ≤ 900) : ∃ s', q6x [some v.d, some (.int v.m), some (.tup (v.as.map D.int)), some (.int v.e), none, none] s = some (.ok (.obj s.length), s') ∧ Gr s s' ∧ lstAt s' s.length = some (((v.as.zip (v.as.drop 1)).map fun z => decide (z.1 < z.2)).map D.bl) := by
  have sl : dSl fSlA (dVar 2) (dPt (dC (.int 1))) dNoPt [some v.d, some (.int v.m), some (.tup (v.as.map D.int)), some (.int v.e), none, none] s = some (.ok (.tup ((v.as.drop 1).map D.int)), s) := by
    have c := cut_lo (v.as.map D.int) 1
    rw [← List.map_drop] at c
    rw [← c]
    rfl
  have zz : zipD (v.as.map D.int) ((v.as.drop 1).map D.int) = (v.as.zip (v.as.drop 1)).map fun z => D.tup [.int z.1, .int z.2] := by
    unfold zipD
    rw [List.zip_map, List.map_map]
    rfl
  have hi : iZipM (dCons (dVar 2) (dCons (dSl fSlA (dVar 2) (dPt (dC (.int 1))) dNoPt) dNil)) [some v.d, some (.int v.m), some (.tup (v.as.map D.int)), some (.int v.e), none, none] s = some (.ok ⟨(v.as.zip (v.as.drop 1)).map fun z => D.tup [.int z.1, .int z.2], none⟩, s) := by
    unfold iZipM
    rw [mbind_ok, cn (x := .tup (v.as.map D.int)) (xs := [.tup ((v.as.drop 1).map D.int)]) (s1 := s) (s2 := s) rfl (cn (s1 := s) sl rfl), ← zz]
  obtain ⟨s', yss, e1, e2, e3, e4⟩ := lc_pure (I := ⟨(v.as.zip (v.as.drop 1)).map fun z => D.tup [.int z.1, .int z.2], none⟩) (g := gTp 2 (gsCons (gN 4) (gsCons (gN 5) gsNil))) (tt := dYes) (de := dOp fLt (dVar 4) (dVar 5)) (Δ := [some v.d, some (.int v.m), some (.tup (v.as.map D.int)), some (.int v.e), none, none]) (s := s) (fun d ys => ∀ z : Int × Int, d = D.tup [.int z.1, .int z.2] → ys = [.bl (decide (z.1 < z.2))]) (fun s' g => rfl) (fun d s1 hd g1 => by
    obtain ⟨z, hz, rfl⟩ := List.mem_map.mp hd
    exact ⟨_, rfl, .inr ⟨s1, _, s1, rfl, op5 (s1 := s1) (s2 := s1) rfl rfl (show fLt (.int z.1) (.int z.2) s1 = some (.bl (decide (z.1 < z.2)), s1) from rfl), Gr.refl _, fun z' hz' => by
      obtain ⟨a, b⟩ := z
      obtain ⟨a', b'⟩ := z'
      cases hz'
      rfl⟩⟩) (le_line (by
      show ((v.as.zip (v.as.drop 1)).map _).length ≤ 1000
      rw [List.length_map, List.length_zip]
      omega))
  have e5 : yss = (v.as.zip (v.as.drop 1)).map fun z => [D.bl (decide (z.1 < z.2))] := All2.map_of (g := fun z : Int × Int => D.tup [.int z.1, .int z.2]) e3 fun z hz y q => q z rfl
  rw [e5, flat_one] at e2
  exact ⟨s', lc_of hi e1, e4, by rw [e2, List.map_map]; rfl⟩
theorem voice_ints (A : Ax) (s : Sto) (v : Vo) (hz : v.as.length ≤ 900) : ∃ s', M_u_is_voice A [v.d] s = some (.ok (.bl (voB v)), s') ∧ Gr s s' := by
  have hs : startD 6 [v.d] = [some v.d, none, none, none, none, none] := rfl
  have l3 : fLen [v.d] s = some (.int 3, s) := by
    have := fLen_tup [.int v.m, .tup (v.as.map D.int), .int v.e] s (by simp)
    exact this
  have t1 : q1t [some v.d, none, none, none, none, none] s = some (.ok false, s) :=
    (or5 (no_t (b := true) (tr5 (cb5 (s1 := s) (cn (s1 := s) rfl (cn (s1 := s) rfl rfl)) (isi_tup _ s))))).trans (te5 (op5 (s1 := s) (s2 := s) (cb5 (s1 := s) (cn (s1 := s) rfl rfl) l3) rfl (fNe_int s 3 3)))
  have a2 : q2s [some v.d, none, none, none, none, none] s = some (.nx [some v.d, some (.int v.m), some (.tup (v.as.map D.int)), some (.int v.e), none, none], s) := rfl
  generalize hΔ : [some v.d, some (D.int v.m), some (.tup (v.as.map D.int)), some (.int v.e), none, none] = Δ at a2
  have v1 : ∀ s, dVar 1 Δ s = some (.ok (.int v.m), s) := fun s => by rw [← hΔ]; rfl
  have v2 : ∀ s, dVar 2 Δ s = some (.ok (.tup (v.as.map D.int)), s) := fun s => by rw [← hΔ]; rfl
  have v3 : ∀ s, dVar 3 Δ s = some (.ok (.int v.e), s) := fun s => by rw [← hΔ]; rfl
  have n1 : dCl (argN 1 (M_is_number A)) (dCons (dVar 1) dNil) Δ s = some (.ok (.bl true), s) := (cl5 (xs := [.int v.m]) (s1 := s) (cn (v1 s) rfl)).trans ((ag5 rfl).trans (isnum_int A v.m s))
  have n3 : dCl (argN 1 (M_u_is_entry A)) (dCons (dVar 3) dNil) Δ s = _ := (cl5 (xs := [.int v.e]) (s1 := s) (cn (v3 s) rfl)).trans ((ag5 rfl).trans (entry_run A s v.e))
  have c1 := (chain_ll (dC (.int 1)) (dVar 1) (dC (.int 1000000000000)) (Δ := Δ) (s := s) (x := 1) (y := v.m) (z := 1000000000000) (fun _ => rfl) v1 (fun _ => rfl)).1
  have t3 : q3t A Δ s = some (.ok (!(decide (1 ≤ v.m) && decide (v.m ≤ 1000000000000)) || !(decide (0 ≤ v.e) && decide (v.e ≤ 1000000000000000))), s) :=
    (or5 (no_t (b := true) (tr5 n1))).trans (or_t (s2 := s) (no_t (te5 c1)) ⟨rfl, no_t (tr5 n3)⟩)
  have ln : ∀ s, dCB fLen (dCons (dVar 2) dNil) Δ s = some (.ok (.int (v.as.length : Nat)), s) := fun s => cb5 (cn (v2 s) rfl) (by
    have := fLen_tup (v.as.map D.int) s (by rw [List.length_map]; omega)
    rw [List.length_map] at this
    exact this)
  have c4 := (chain_ll (dC (.int 1)) (dCB fLen (dCons (dVar 2) dNil)) (dC (.int 24)) (Δ := Δ) (s := s) (x := 1) (y := (v.as.length : Nat)) (z := 24) (fun _ => rfl) ln (fun _ => rfl)).1
  have t4 : q4t Δ s = some (.ok (!(decide ((1 : Int) ≤ (v.as.length : Nat)) && decide (((v.as.length : Nat) : Int) ≤ 24))), s) :=
    (or5 (no_t (b := true) (tr5 (cb5 (cn (v2 s) (cn (s1 := s) rfl rfl)) (isi_tup _ s))))).trans (no_t (te5 c4))
  obtain ⟨s5, e1, g1, e2⟩ := q5_run A s v hz
  obtain ⟨s6, f1, g2, f2⟩ := q6_run s5 v hz
  rw [hΔ] at e1 f1
  have t5 : dNot (dTruth (dCB fAll (dCons (q5x A) dNil))) Δ s = some (.ok (!v.as.all (in01 v.m)), s5) := no_t (tr5 (cb5 (cn e1 rfl) (by rw [fAll_run e2, all_map])))
  have a6 : dRet (dCB fAll (dCons q6x dNil)) Δ s5 = some (.rt (.bl (adjI v.as)), s6) := by
    rw [dRet_eq, sbind_eq, cb5 (cn f1 rfl) (fAll_run f2), all_map]
    rfl
  have run : ds_u_is_voice A [some v.d, none, none, none, none, none] s = if (!(decide (1 ≤ v.m) && decide (v.m ≤ 1000000000000)) || !(decide (0 ≤ v.e) && decide (v.e ≤ 1000000000000000))) = true then some (.rt (.bl false), s) else if (!(decide ((1 : Int) ≤ (v.as.length : Nat)) && decide (((v.as.length : Nat) : Int) ≤ 24))) = true then some (.rt (.bl false), s) else if (!v.as.all (in01 v.m)) = true then some (.rt (.bl false), s5) else some (.rt (.bl (adjI v.as)), s6) := by
    rw [ds_voice_eq, seq_nx (no5 t1), seq_nx a2, guard5 t3, guard5 t4, guard5 t5, a6]
  have i1 : decide ((1 : Int) ≤ (v.as.length : Nat)) = decide (1 ≤ v.as.length) := decide_eq_decide.mpr (by omega)
  have i2 : decide (((v.as.length : Nat) : Int) ≤ 24) = decide (v.as.length ≤ 24) := decide_eq_decide.mpr (by omega)
  rw [i1, i2] at run
  unfold voB
  generalize (decide (1 ≤ v.m) && decide (v.m ≤ 1000000000000)) = b1 at *
  generalize (decide (0 ≤ v.e) && decide (v.e ≤ 1000000000000000)) = b2 at *
  generalize (decide (1 ≤ v.as.length) && decide (v.as.length ≤ 24)) = b3 at *
  generalize v.as.all (in01 v.m) = b4 at *
  generalize adjI v.as = b5 at *
  cases b1 <;> cases b2 <;> cases b3 <;> cases b4 <;> first | exact ⟨s6, fn_rt run, g1.trans g2⟩ | exact ⟨s5, fn_rt run, g1⟩ | exact ⟨s, fn_rt run, Gr.refl s⟩
end
end My

set_option maxHeartbeats 4000000
namespace My
open PySem L2 PyProof.Rows DV
/-! ### clashes -/
def bvX (A : Ax) (i : Int) : Xc := ⟨A.c_BadVoice, [("index", .int i)]⟩
def btX (A : Ax) : Xc := ⟨A.c_BadTime, []⟩
/-- what is judged of x, wherever it is asked behind s -/
def JV (A : Ax) (s : Sto) (x : D) (b : Bool) : Prop := ∀ s1, Gr s s1 → ∃ s2, M_u_is_voice A [x] s1 = some (.ok (.bl b), s2) ∧ Gr s1 s2
theorem JV.gr {A : Ax} {s s' : Sto} {x : D} {b : Bool} (h : JV A s x b) (g : Gr s s') : JV A s' x b := fun s1 g1 => h s1 (g.trans g1)
theorem jv_ints (A : Ax) (s : Sto) (v : Vo) (hz : v.as.length ≤ 900) : JV A s v.d (voB v) := fun s1 _ => voice_ints A s1 v hz
abbrev k1b (A : Ax) : DS := dIfS (dNot (dTruth (dCl (argN 1 (M_u_is_voice A)) (dCons (dVar 5) dNil)))) (dRaiseF A.c_BadVoice "index" (dVar 4)) dNx
abbrev k1s (A : Ax) : DS := dFor (iEnumA (dCons (dTup (dCons (dVar 0) (dCons (dVar 1) dNil))) dNil)) (gTp 2 (gsCons (gN 4) (gsCons (gN 5) gsNil))) (k1b A)
abbrev k2s : DS := dAsg (dCB fGcd (dCons (dOp fIx (dVar 0) (dC (.int 0))) (dCons (dOp fIx (dVar 1) (dC (.int 0))) dNil))) (gN 2)
abbrev k3s : DS := dAsg (dOp fSub (dOp fIx (dVar 0) (dC (.int 2))) (dOp fIx (dVar 1) (dC (.int 2)))) (gN 3)
abbrev k4e : DX := dOp fMod (dOp fSub (dOp fAdd (dVar 3) (dVar 6)) (dVar 7)) (dVar 2)
abbrev k4x : DX := dLc2 [6, 7] [7] (iSeqT (dOp fIx (dVar 0) (dC (.int 1)))) (gN 6) dYes (iSeqT (dOp fIx (dVar 1) (dC (.int 1)))) (gN 7) dYes k4e
abbrev k4s : DX := dTup (dCons (dVar 2) (dCons (dCB fTuple (dCons (dSortSet (dCons k4x dNil)) dNil)) dNil))
theorem ds_clashes_eq (A : Ax) : ds_clashes A = dSeq (k1s A) (dSeq k2s (dSeq k3s (dRet k4s))) := rfl
theorem lcI {I : Itd} (hI : I.src = none) {j n : Nat} {de : DX} {Δ : Dn} {f : Int → Int} (hd : ∀ (b : Int) (s : Sto), de (Δ.set j (some (.int b))) s = some (.ok (.int (f b)), s)) :
    ∀ (bs : List Int) (acc : List D) (s : Sto), lstAt s n = some acc → acc.length + bs.length ≤ 900 → ∃ s', lcRun I (gN j) dYes de n (bs.map D.int) Δ s = some s' ∧ lstAt s' n = some (acc ++ (bs.map f).map D.int) ∧ ∀ s0, Gr s0 s → s0.length ≤ n → Gr s0 s'
  | [], acc, s, e, _ => by
    have st : I.still s = true := by unfold Itd.still; rw [hI]
    exact ⟨s, by simp [lcRun, st], by simpa using e, fun s0 g _ => g⟩
  | b :: bs, acc, s, e, hz => by
    have st : I.still s = true := by unfold Itd.still; rw [hI]
    rw [List.length_cons] at hz
    have z : acc.length < sizeLine := Nat.lt_of_lt_of_le (show acc.length < 1000 by omega) (le_line (by decide))
    obtain ⟨s', h1, h2, h3⟩ := lcI (I := I) hI hd bs (acc ++ [.int (f b)]) (s.set n (.lst (acc ++ [.int (f b)]))) (lstAt_set e) (by rw [List.length_append, List.length_singleton]; omega)
    have hg : gN j (.int b) Δ s = some (Δ.set j (some (.int b)), s) := rfl
    have hy : dYes (Δ.set j (some (.int b))) s = some (.ok true, s) := rfl
    refine ⟨s', ?_, by simpa using h2, fun s0 g l => h3 s0 (g.set l) l⟩
    rw [List.map_cons, lcRun.eq_def]
    simp only [st, if_true, hg, hy, hd b s, e, z]
    exact h1
theorem lc2I {I : Itd} (hI : I.src = none) {i j n : Nat} {vs1 : List Nat} {di1 : DI} {de : DX} {Δ : Dn} {f : Int → Int → Int} {bs : List Int} (h1 : ∀ (a : Int) (s : Sto), di1 (Δ.set i (some (.int a))) s = some (.ok ⟨bs.map D.int, none⟩, s))
    (hd : ∀ (a b : Int) (s : Sto), de ((wipeD (Δ.set i (some (.int a))) vs1).set j (some (.int b))) s = some (.ok (.int (f a b)), s)) :
    ∀ (as : List Int) (acc : List D) (s : Sto), lstAt s n = some acc → acc.length + as.length * bs.length ≤ 900 → ∃ s', lc2Run I (gN i) dYes di1 (gN j) dYes de vs1 n (as.map D.int) Δ s = some s' ∧ lstAt s' n = some (acc ++ (as.flatMap fun a => bs.map (f a)).map D.int) ∧ ∀ s0, Gr s0 s → s0.length ≤ n → Gr s0 s'
  | [], acc, s, e, _ => by
    have st : I.still s = true := by unfold Itd.still; rw [hI]
    exact ⟨s, by simp [lc2Run, st], by simpa using e, fun s0 g _ => g⟩
  | a :: as, acc, s, e, hz => by
    have st : I.still s = true := by unfold Itd.still; rw [hI]
    rw [List.length_cons, Nat.succ_mul] at hz
    obtain ⟨s1, a1, a2, a3⟩ := lcI (I := ⟨bs.map D.int, none⟩) rfl (j := j) (n := n) (hd a) bs acc s e (by omega)
    obtain ⟨s', b1, b2, b3⟩ := lc2I (I := I) hI h1 hd as (acc ++ (bs.map (f a)).map D.int) s1 a2 (by rw [List.length_append, List.length_map, List.length_map]; omega)
    have hg : gN i (.int a) Δ s = some (Δ.set i (some (.int a)), s) := rfl
    have hy : dYes (Δ.set i (some (.int a))) s = some (.ok true, s) := rfl
    refine ⟨s', ?_, by simpa using b2, fun s0 g l => b3 s0 (a3 s0 g l) l⟩
    rw [List.map_cons, lc2Run.eq_def]
    simp only [st, if_true, hg, hy, h1 a s, a1]
    exact b1
theorem lc2_of {vs vs1 : List Nat} {di di1 : DI} {g g1 : DGf} {tt tt1 : DT} {de : DX} {Δ : Dn} {s s0 s1 : Sto} {I : Itd} (h : di Δ s = some (.ok I, s0)) (h2 : lc2Run I g tt di1 g1 tt1 de vs1 s0.length I.its (wipeD Δ vs) (s0 ++ [.lst []]) = some s1) : dLc2 vs vs1 di g tt di1 g1 tt1 de Δ s = some (.ok (.obj s0.length), s1) := by
  unfold dLc2
  rw [mbind_ok, h]
  simp only [h2]
theorem fm_len (f : Int → Int → Int) (bs : List Int) : ∀ as : List Int, (as.flatMap fun a => bs.map (f a)).length = as.length * bs.length
  | [] => by simp
  | a :: as => by
    rw [List.flatMap_cons, List.length_append, fm_len f bs as, List.length_map, List.length_cons, Nat.succ_mul]
    omega
theorem sortSet5 {da : DA} {Δ : Dn} {s s1 : Sto} {n : Nat} {l : List Int} (h : da Δ s = some (.ok [.obj n], s1)) (e : lstAt s1 n = some (l.map D.int)) (hz : l.length < 64) : dSortSet da Δ s = some (.ok (.obj s1.length), s1 ++ [.lst ((usort l).map D.int)]) := by
  unfold dSortSet
  rw [mbind_ok, h]
  simp only [e, intsOf_map, if_pos hz]
section
variable {A : Ax} {s : Sto}
theorem k1_run {x y : D} (z2 z3 z4 z5 z6 z7 : Option D) {bx by_ : Bool} (hx : JV A s x bx) (hy : JV A s y by_) :
    (bx = false → ∃ Δ' s', k1s A [some x, some y, z2, z3, z4, z5, z6, z7] s = some (.ex (bvX A 0) Δ', s') ∧ Gr s s') ∧
    (bx = true → by_ = false → ∃ Δ' s', k1s A [some x, some y, z2, z3, z4, z5, z6, z7] s = some (.ex (bvX A 1) Δ', s') ∧ Gr s s') ∧
    (bx = true → by_ = true → ∃ y4 y5 s', k1s A [some x, some y, z2, z3, z4, z5, z6, z7] s = some (.nx [some x, some y, z2, z3, y4, y5, z6, z7], s') ∧ Gr s s') := by
  have hi : iEnumA (dCons (dTup (dCons (dVar 0) (dCons (dVar 1) dNil))) dNil) [some x, some y, z2, z3, z4, z5, z6, z7] s = some (.ok ⟨[.tup [.int 0, x], .tup [.int 1, y]], none⟩, s) := by
    unfold iEnumA
    rw [mbind_ok, cn (x := .tup [x, y]) (xs := []) (s1 := s) (s2 := s) (tp (cn (s1 := s) rfl (cn (s1 := s) rfl rfl)) (by simp)) rfl]
    rfl
  obtain ⟨s1, x1, g1⟩ := hx s (Gr.refl s)
  obtain ⟨s2, y1, g2⟩ := hy s1 g1
  have tx : dNot (dTruth (dCl (argN 1 (M_u_is_voice A)) (dCons (dVar 5) dNil))) [some x, some y, z2, z3, some (.int 0), some x, z6, z7] s = some (.ok (!bx), s1) := no_t (tr5 ((cl5 (xs := [x]) (s1 := s) (cn (s1 := s) rfl rfl)).trans ((ag5 rfl).trans x1)))
  have ty : dNot (dTruth (dCl (argN 1 (M_u_is_voice A)) (dCons (dVar 5) dNil))) [some x, some y, z2, z3, some (.int 1), some y, z6, z7] s1 = some (.ok (!by_), s2) := no_t (tr5 ((cl5 (xs := [y]) (s1 := s1) (cn (s1 := s1) rfl rfl)).trans ((ag5 rfl).trans y1)))
  have g0 : ∀ (i : Int) (d : D) (w4 w5 : Option D) (s : Sto), gTp 2 (gsCons (gN 4) (gsCons (gN 5) gsNil)) (.tup [.int i, d]) [some x, some y, z2, z3, w4, w5, z6, z7] s = some ([some x, some y, z2, z3, some (.int i), some d, z6, z7], s) := fun _ _ _ _ _ => rfl
  refine ⟨fun hb => ?_, fun hb hc => ?_, fun hb hc => ?_⟩
  · subst hb
    have b1 : k1b A [some x, some y, z2, z3, some (.int 0), some x, z6, z7] s = some (.ex (bvX A 0) [some x, some y, z2, z3, some (.int 0), some x, z6, z7], s1) := (if5 tx).trans rfl
    refine ⟨[some x, some y, z2, z3, some (.int 0), some x, z6, z7], s1, for_of hi ?_, g1⟩
    simp only [forRun, Itd.still, if_true, g0, b1]
  · subst hb hc
    have b1 : k1b A [some x, some y, z2, z3, some (.int 0), some x, z6, z7] s = some (.nx [some x, some y, z2, z3, some (.int 0), some x, z6, z7], s1) := (if5 tx).trans rfl
    have b2 : k1b A [some x, some y, z2, z3, some (.int 1), some y, z6, z7] s1 = some (.ex (bvX A 1) [some x, some y, z2, z3, some (.int 1), some y, z6, z7], s2) := (if5 ty).trans rfl
    refine ⟨[some x, some y, z2, z3, some (.int 1), some y, z6, z7], s2, for_of hi ?_, g1.trans g2⟩
    simp only [forRun, Itd.still, if_true, g0, b1, b2]
  · subst hb hc
    have b1 : k1b A [some x, some y, z2, z3, some (.int 0), some x, z6, z7] s = some (.nx [some x, some y, z2, z3, some (.int 0), some x, z6, z7], s1) := (if5 tx).trans rfl
    have b2 : k1b A [some x, some y, z2, z3, some (.int 1), some y, z6, z7] s1 = some (.nx [some x, some y, z2, z3, some (.int 1), some y, z6, z7], s2) := (if5 ty).trans rfl
    refine ⟨some (.int 1), some y, s2, for_of hi ?_, g1.trans g2⟩
    simp only [forRun, Itd.still, if_true, g0, b1, b2]
theorem clashes_bad {x y : D} {bx by_ : Bool} (hx : JV A s x bx) (hy : JV A s y by_) : (bx = false → ∃ s', M_clashes A [x, y] s = some (.error (bvX A 0), s') ∧ Gr s s') ∧ (bx = true → by_ = false → ∃ s', M_clashes A [x, y] s = some (.error (bvX A 1), s') ∧ Gr s s') := by
  have hs : startD 8 [x, y] = [some x, some y, none, none, none, none, none, none] := rfl
  obtain ⟨k1, k2, _⟩ := k1_run (A := A) none none none none none none hx hy
  refine ⟨fun h => ?_, fun h h2 => ?_⟩
  · obtain ⟨Δ', s', e, g⟩ := k1 h
    refine ⟨s', fn_ex (Δ := Δ') ?_, g⟩
    rw [ds_clashes_eq, hs]
    exact seq_ex e
  · obtain ⟨Δ', s', e, g⟩ := k2 h h2
    refine ⟨s', fn_ex (Δ := Δ') ?_, g⟩
    rw [ds_clashes_eq, hs]
    exact seq_ex e
def Vo.cl (v w : Vo) : List Int := clash v.m v.as v.e w.m w.as w.e
theorem clashes_ok {v w : Vo} (hv : voB v = true) (hw : voB w = true) (m1 : 0 < v.m) (hz : v.as.length * w.as.length < 64) (z1 : v.as.length ≤ 900) (z2 : w.as.length ≤ 900) :
    ∃ s', M_clashes A [v.d, w.d] s = some (.ok (.tup [.int (gI v.m w.m), .tup ((v.cl w).map D.int)]), s') ∧ Gr s s' := by
  have hs : startD 8 [v.d, w.d] = [some v.d, some w.d, none, none, none, none, none, none] := rfl
  have jv := jv_ints A s v z1
  have jw := jv_ints A s w z2
  obtain ⟨y4, y5, s1, e1, g1⟩ := (k1_run (A := A) none none none none none none jv jw).2.2 hv hw
  have a2 : k2s [some v.d, some w.d, none, none, y4, y5, none, none] s1 = some (.nx [some v.d, some w.d, some (.int (gI v.m w.m)), none, y4, y5, none, none], s1) := asg (cb5 (s1 := s1) (cn (s1 := s1) (op5 (s1 := s1) (s2 := s1) rfl rfl ix3_0) (cn (s1 := s1) (op5 (s1 := s1) (s2 := s1) rfl rfl ix3_0) rfl)) rfl) rfl
  have a3 : k3s [some v.d, some w.d, some (.int (gI v.m w.m)), none, y4, y5, none, none] s1 = some (.nx [some v.d, some w.d, some (.int (gI v.m w.m)), some (.int (v.e - w.e)), y4, y5, none, none], s1) := asg (op5 (s1 := s1) (s2 := s1) (op5 (s1 := s1) (s2 := s1) rfl rfl ix3_2) (op5 (s1 := s1) (s2 := s1) rfl rfl ix3_2) sub5) rfl
  have g := gI_pos w.m m1
  have di : iSeqT (dOp fIx (dVar 0) (dC (.int 1))) [some v.d, some w.d, some (.int (gI v.m w.m)), some (.int (v.e - w.e)), y4, y5, none, none] s1 = some (.ok ⟨v.as.map D.int, none⟩, s1) := rfl
  obtain ⟨s2, b1, b2, b3⟩ := lc2I (I := ⟨v.as.map D.int, none⟩) rfl (i := 6) (j := 7) (n := s1.length) (vs1 := [7]) (di1 := iSeqT (dOp fIx (dVar 1) (dC (.int 1)))) (de := k4e) (Δ := [some v.d, some w.d, some (.int (gI v.m w.m)), some (.int (v.e - w.e)), y4, y5, none, none]) (f := fun a b => (v.e - w.e + a - b) % gI v.m w.m) (bs := w.as) (fun a s => rfl) (fun a b s => op5 (s1 := s) (s2 := s) (op5 (s1 := s) (s2 := s) (op5 (s1 := s) (s2 := s) rfl rfl add5) rfl sub5) rfl (mod5 g)) v.as [] (s1 ++ [.lst []]) lstAt_new (by simp; omega)
  rw [List.nil_append] at b2
  have c1 : k4x [some v.d, some w.d, some (.int (gI v.m w.m)), some (.int (v.e - w.e)), y4, y5, none, none] s1 = some (.ok (.obj s1.length), s2) := by
    exact lc2_of di b1
  have lz : (v.as.flatMap fun a => w.as.map fun b => (v.e - w.e + a - b) % gI v.m w.m).length < 64 := by
    have : (v.as.flatMap fun a => w.as.map fun b => (v.e - w.e + a - b) % gI v.m w.m).length = v.as.length * w.as.length := by
      exact fm_len (fun a b => (v.e - w.e + a - b) % gI v.m w.m) w.as v.as
    omega
  have c2 : dSortSet (dCons k4x dNil) [some v.d, some w.d, some (.int (gI v.m w.m)), some (.int (v.e - w.e)), y4, y5, none, none] s1 = some (.ok (.obj s2.length), s2 ++ [.lst ((v.cl w).map D.int)]) := sortSet5 (cn c1 rfl) b2 lz
  have c3 : k4s [some v.d, some w.d, some (.int (gI v.m w.m)), some (.int (v.e - w.e)), y4, y5, none, none] s1 = some (.ok (.tup [.int (gI v.m w.m), .tup ((v.cl w).map D.int)]), s2 ++ [.lst ((v.cl w).map D.int)]) := tp (cn (s1 := s1) rfl (cn (cb5 (cn c2 rfl) (tuple_obj lstAt_new)) rfl)) (by simp)
  refine ⟨s2 ++ [.lst ((v.cl w).map D.int)], fn_rt ?_, (g1.trans (b3 s1 Gr.app (Nat.le_refl _))).trans Gr.app⟩
  rw [ds_clashes_eq, hs, seq_nx e1, seq_nx a2, seq_nx a3, dRet_eq, sbind_eq, c3]
end
end My

set_option maxHeartbeats 4000000
namespace My
open PySem L2 PyProof.Rows DV
/-! ### next_clear -/
theorem py_tup (s : Sto) (l : List Int) : toPy s 64 (.tup (l.map D.int)) = some (.tuple (l.map PyData.int)) := by
  show (omap (toPy s 63) (l.map D.int)).map PyData.tuple = _
  rw [py_ints s l]
  rfl
theorem shp_tup (l : List Int) : SeqAt.shaped (.tuple (l.map PyData.int)) = true := by
  have d := dep_ints l
  unfold SeqAt.shaped
  rw [decide_eq_true (show (PyData.tuple _).depth ≤ 64 by rw [PyData.depth]; omega)]
  simp [PyData.canLay0, lay_ints l]
theorem fIn_ints (k : Int) (l : List Int) (s : Sto) : fIn (.int k) (.tup (l.map D.int)) s = some (.bl (decide (k ∈ l)), s) ∧ fNotIn (.int k) (.tup (l.map D.int)) s = some (.bl (!decide (k ∈ l)), s) := by
  have w : toPy s 64 (.int k) = some (.int k) := rfl
  have py : py2 s (.int k) (.tup (l.map D.int)) = some (.int k, .tuple (l.map PyData.int)) := by
    unfold py2
    rw [w, py_tup]
    have : SeqAt.shaped (.int k) = true := rfl
    simp only [this, shp_tup, Bool.and_self, if_true]
  have an : ((l.map PyData.int).any fun z => PyData.eqv z (.int k)) = decide (k ∈ l) := by
    rw [List.any_map, Bool.eq_iff_iff, List.any_eq_true, decide_eq_true_iff]
    constructor
    · rintro ⟨i, hi, h⟩
      have h2 : (i == k) = true := h
      have : i = k := by simpa using h2
      rwa [← this]
    · intro h
      exact ⟨k, h, by show (k == k) = true; simp⟩
  have f1 : fInS false (.int k) (.tup (l.map D.int)) s = none := rfl
  have f2 : fInP false (.int k) (.tup (l.map D.int)) s = some (.bl (decide (k ∈ l)), s) := by
    unfold fInP
    rw [py]
    simp only [pyItems, an]
    rfl
  have f4 : fInP true (.int k) (.tup (l.map D.int)) s = some (.bl (!decide (k ∈ l)), s) := by
    unfold fInP
    rw [py]
    simp only [pyItems, an]
    rfl
  refine ⟨?_, ?_⟩
  · unfold fIn orOp
    rw [f1]
    exact f2
  · first
      | exact f4
      | (unfold fNotIn; exact f4)
      | (unfold fNotIn orOp
         have f3 : fInS true (.int k) (.tup (l.map D.int)) s = none := rfl
         rw [f3]
         exact f4)
abbrev n1s (A : Ax) : DS := dAsg (dCl (argN 2 (M_clashes A)) (dCons (dVar 0) (dCons (dVar 1) dNil))) (gTp 2 (gsCons (gN 3) (gsCons (gN 4) gsNil)))
abbrev n2s (A : Ax) : DS := dDrop (dCl (argN 1 (M_u_check_time A)) (dCons (dVar 2) dNil))
abbrev n3t : DT := dTest (dOp fEq (dCB fLen (dCons (dVar 4) dNil)) (dVar 3))
abbrev n4t : DT := dTest (dOp fIn (dOp fMod (dVar 2) (dVar 3)) (dVar 4))
abbrev n4b : DS := dAsg (dOp fAdd (dVar 2) (dC (.int 1))) (gN 2)
theorem ds_next_eq (A : Ax) : ds_next_clear A = dSeq (n1s A) (dSeq (n2s A) (dSeq (dIfS n3t (dRet (dC .non)) dNx) (dSeq (whRun n4t n4b 40) (dRet (dVar 2))))) := rfl
/-- the first time from d on whose residue is free -/
def First (F : List Int) (g d x : Int) : Prop := d ≤ x ∧ x % g ∉ F ∧ ∀ y, d ≤ y → y < x → y % g ∈ F
theorem First.one {F : List Int} {g d x y : Int} (h : First F g d x) (k : First F g d y) : x = y := by
  obtain ⟨a1, a2, a3⟩ := h
  obtain ⟨b1, b2, b3⟩ := k
  have h1 : ¬ x < y := fun z => a2 (b3 x a1 z)
  have h2 : ¬ y < x := fun z => b2 (a3 y b1 z)
  omega
theorem wh_free (x0 x1 : Option D) {F : List Int} {g : Int} (hg : 0 < g) (s : Sto) : ∀ (i f : Nat) (d : Int), i < f → (d + i) % g ∉ F → ∃ x, First F g d x ∧ x ≤ d + i ∧ whRun n4t n4b f [x0, x1, some (.int d), some (.int g), some (.tup (F.map D.int))] s = some (.nx [x0, x1, some (.int x), some (.int g), some (.tup (F.map D.int))], s)
  | i, 0, d, h, _ => absurd h (Nat.not_lt_zero _)
  | i, f + 1, d, h, hf => by
    have t : n4t [x0, x1, some (.int d), some (.int g), some (.tup (F.map D.int))] s = some (.ok (decide (d % g ∈ F)), s) := te5 (op5 (s1 := s) (s2 := s) (op5 (s1 := s) (s2 := s) rfl rfl (mod5 hg)) rfl (fIn_ints (d % g) F s).1)
    by_cases c : d % g ∈ F
    · rw [decide_eq_true c] at t
      cases i with
      | zero => exact absurd c (by simpa using hf)
      | succ i =>
        have e : d + ((i + 1 : Nat) : Int) = (d + 1) + (i : Nat) := by omega
        rw [e] at hf
        obtain ⟨x, ⟨h1, h2, h3⟩, h4, h5⟩ := wh_free x0 x1 (F := F) hg s i f (d + 1) (by omega) hf
        have b : n4b [x0, x1, some (.int d), some (.int g), some (.tup (F.map D.int))] s = some (.nx [x0, x1, some (.int (d + 1)), some (.int g), some (.tup (F.map D.int))], s) := asg (op5 (s1 := s) (s2 := s) rfl rfl add5) rfl
        refine ⟨x, ⟨by omega, h2, fun y hy1 hy2 => ?_⟩, by omega, ?_⟩
        · by_cases z : y = d
          · rw [z]; exact c
          · exact h3 y (by omega) hy2
        · unfold whRun
          rw [sbind_eq, t]
          simp only [if_true, b]
          exact h5
    · rw [decide_eq_false c] at t
      refine ⟨d, ⟨by omega, c, fun y hy1 hy2 => by omega⟩, by omega, ?_⟩
      unfold whRun
      rw [sbind_eq, t]
      rfl
section
variable {A : Ax} {s : Sto}
theorem time_ok (A : Ax) (s : Sto) {d : Int} (h : 0 ≤ d) : M_u_check_time A [.int d] s = some (.ok .non, s) := by
  have z : ¬ d < 0 := by omega
  simp [M_u_check_time, ds_u_check_time, startD, isnum_int, truD, fLt, z]
/-- a time that is none -/
def OddT (A : Ax) (s : Sto) (x : D) : Prop := ∀ s1, Gr s s1 → M_u_check_time A [x] s1 = some (.error (btX A), s1)
theorem Vo.cl_facts {v w : Vo} (m1 : 0 < v.m) : (v.cl w).Nodup ∧ (∀ k ∈ v.cl w, 0 ≤ k ∧ k < gI v.m w.m) := by
  refine ⟨?_, fun k h => clash_in m1 h⟩
  exact (usort_lt _).imp fun z => by omega
theorem cl_len {v w : Vo} : (v.cl w).length ≤ v.as.length * w.as.length := by
  have h := pig (v.cl w) (v.as.flatMap fun a => w.as.map fun b => (v.e - w.e + a - b) % gI v.m w.m) ((usort_lt _).imp fun z => by omega) fun a ha => (usort_mem _ a).mp ha
  rw [fm_len (fun a b => (v.e - w.e + a - b) % gI v.m w.m) w.as v.as] at h
  exact h
theorem next_ok {v w : Vo} (hv : voB v = true) (hw : voB w = true) (m1 : 0 < v.m) (hz : v.as.length * w.as.length < 39) (z1 : v.as.length ≤ 900) (z2 : w.as.length ≤ 900) {d : Int} (hd : 0 ≤ d) :
    ∃ r s', M_next_clear A [v.d, w.d, .int d] s = some (.ok r, s') ∧ Gr s s' ∧ ((((v.cl w).length : Int) = gI v.m w.m ∧ r = .non) ∨ (((v.cl w).length : Int) < gI v.m w.m ∧ ∃ x, r = .int x ∧ First (v.cl w) (gI v.m w.m) d x ∧ x ≤ d + 40)) := by
  have hs : startD 5 [v.d, w.d, .int d] = [some v.d, some w.d, some (.int d), none, none] := rfl
  obtain ⟨s1, c1, g1⟩ := clashes_ok (A := A) (s := s) hv hw m1 (by omega) z1 z2
  obtain ⟨f1, f2⟩ := Vo.cl_facts (v := v) (w := w) m1
  have f3 := cl_len (v := v) (w := w)
  have g := gI_pos w.m m1
  have f4 := found_le f1 g f2
  have a1 : n1s A [some v.d, some w.d, some (.int d), none, none] s = some (.nx [some v.d, some w.d, some (.int d), some (.int (gI v.m w.m)), some (.tup ((v.cl w).map D.int))], s1) := asg ((cl5 (xs := [v.d, w.d]) (s1 := s) (cn (s1 := s) rfl (cn (s1 := s) rfl rfl))).trans ((ag5 rfl).trans c1)) rfl
  have a2 : n2s A [some v.d, some w.d, some (.int d), some (.int (gI v.m w.m)), some (.tup ((v.cl w).map D.int))] s1 = some (.nx [some v.d, some w.d, some (.int d), some (.int (gI v.m w.m)), some (.tup ((v.cl w).map D.int))], s1) := by
    have q : dCl (argN 1 (M_u_check_time A)) (dCons (dVar 2) dNil) [some v.d, some w.d, some (.int d), some (.int (gI v.m w.m)), some (.tup ((v.cl w).map D.int))] s1 = some (.ok .non, s1) := (cl5 (xs := [.int d]) (s1 := s1) (cn (s1 := s1) rfl rfl)).trans ((ag5 rfl).trans (time_ok A s1 hd))
    unfold n2s
    rw [dDrop_eq, sbind_eq, q]
  have ln : fLen [.tup ((v.cl w).map D.int)] s1 = some (.int ((v.cl w).length : Nat), s1) := by
    have := fLen_tup ((v.cl w).map D.int) s1 (by rw [List.length_map]; omega)
    rw [List.length_map] at this
    exact this
  have t3 : n3t [some v.d, some w.d, some (.int d), some (.int (gI v.m w.m)), some (.tup ((v.cl w).map D.int))] s1 = some (.ok (((v.cl w).length : Int) == gI v.m w.m), s1) := te5 (op5 (s1 := s1) (s2 := s1) (cb5 (s1 := s1) (cn (s1 := s1) rfl rfl) ln) rfl (fEq_int s1 _ _))
  by_cases c : ((v.cl w).length : Int) = gI v.m w.m
  · have cb : (((v.cl w).length : Int) == gI v.m w.m) = true := by simpa using c
    rw [cb] at t3
    refine ⟨.non, s1, fn_rt ?_, g1, .inl ⟨c, rfl⟩⟩
    rw [ds_next_eq, hs, seq_nx a1, seq_nx a2]
    exact seq_rt (yes5 t3 rfl)
  · have cb : (((v.cl w).length : Int) == gI v.m w.m) = false := by simpa using c
    rw [cb] at t3
    obtain ⟨i, i1, i2⟩ := found_free f1 (show ((v.cl w).length : Int) < gI v.m w.m by omega) d
    obtain ⟨x, h1, h2, h3⟩ := wh_free (some v.d) (some w.d) g s1 i 40 d (by omega) i2
    refine ⟨.int x, s1, fn_rt ?_, g1, .inr ⟨by omega, x, rfl, h1, by omega⟩⟩
    rw [ds_next_eq, hs, seq_nx a1, seq_nx a2, seq_nx (no5 t3), seq_nx h3]
    rfl
theorem next_bad {x y z : D} {bx by_ : Bool} (hx : JV A s x bx) (hy : JV A s y by_) : (bx = false → ∃ s', M_next_clear A [x, y, z] s = some (.error (bvX A 0), s') ∧ Gr s s') ∧ (bx = true → by_ = false → ∃ s', M_next_clear A [x, y, z] s = some (.error (bvX A 1), s') ∧ Gr s s') := by
  have hs : startD 5 [x, y, z] = [some x, some y, some z, none, none] := rfl
  obtain ⟨k1, k2⟩ := clashes_bad hx hy
  have go : ∀ (e : Xc) s', M_clashes A [x, y] s = some (.error e, s') → M_next_clear A [x, y, z] s = some (.error e, s') := fun e s' h => by
    have c1 : dCl (argN 2 (M_clashes A)) (dCons (dVar 0) (dCons (dVar 1) dNil)) [some x, some y, some z, none, none] s = some (.error e, s') := (cl5 (xs := [x, y]) (s1 := s) (cn (s1 := s) rfl (cn (s1 := s) rfl rfl))).trans ((ag5 rfl).trans h)
    refine fn_ex (Δ := [some x, some y, some z, none, none]) ?_
    rw [ds_next_eq, hs]
    refine seq_ex ?_
    unfold n1s
    rw [dAsg_eq, sbind_eq, c1]
  refine ⟨fun h => ?_, fun h h2 => ?_⟩
  · obtain ⟨s', e, g⟩ := k1 h
    exact ⟨s', go _ _ e, g⟩
  · obtain ⟨s', e, g⟩ := k2 h h2
    exact ⟨s', go _ _ e, g⟩
theorem next_late {v w : Vo} (hv : voB v = true) (hw : voB w = true) (m1 : 0 < v.m) (hz : v.as.length * w.as.length < 64) (z1 : v.as.length ≤ 900) (z2 : w.as.length ≤ 900) {x : D} (hx : OddT A s x) :
    ∃ s', M_next_clear A [v.d, w.d, x] s = some (.error (btX A), s') ∧ Gr s s' := by
  have hs : startD 5 [v.d, w.d, x] = [some v.d, some w.d, some x, none, none] := rfl
  obtain ⟨s1, c1, g1⟩ := clashes_ok (A := A) (s := s) hv hw m1 hz z1 z2
  have a1 : n1s A [some v.d, some w.d, some x, none, none] s = some (.nx [some v.d, some w.d, some x, some (.int (gI v.m w.m)), some (.tup ((v.cl w).map D.int))], s1) := asg ((cl5 (xs := [v.d, w.d]) (s1 := s) (cn (s1 := s) rfl (cn (s1 := s) rfl rfl))).trans ((ag5 rfl).trans c1)) rfl
  have q : dCl (argN 1 (M_u_check_time A)) (dCons (dVar 2) dNil) [some v.d, some w.d, some x, some (.int (gI v.m w.m)), some (.tup ((v.cl w).map D.int))] s1 = some (.error (btX A), s1) := (cl5 (xs := [x]) (s1 := s1) (cn (s1 := s1) rfl rfl)).trans ((ag5 rfl).trans (hx s1 g1))
  refine ⟨s1, fn_ex (Δ := [some v.d, some w.d, some x, some (.int (gI v.m w.m)), some (.tup ((v.cl w).map D.int))]) ?_, g1⟩
  rw [ds_next_eq, hs, seq_nx a1]
  refine seq_ex ?_
  unfold n2s
  rw [dDrop_eq, sbind_eq, q]
end
end My

set_option maxHeartbeats 4000000
namespace My
open PySem L2 PyProof.Rows DV
/-! ### the law's own gcd, span, what sounds, what meets -/
abbrev gt_ : DT := dTest (dOp fGt (dVar 1) (dC (.int 0)))
abbrev gb_ : DS := dPar 0 1 (dCons (dVar 1) (dCons (dOp fMod (dCB fInt (dCons (dVar 0) dNil)) (dVar 1)) dNil))
theorem gcd_stop (s : Sto) (a f : Nat) (h : 0 < f) : whRun gt_ gb_ f [some (.int (a : Nat)), some (.int ((0 : Nat) : Int))] s = some (.nx [some (.int (a : Nat)), some (.int ((0 : Nat) : Int))], s) := by
  obtain ⟨f, rfl⟩ : ∃ g, f = g + 1 := ⟨f - 1, by omega⟩
  rfl
theorem gcd_step (s : Sto) (a b f : Nat) (h : 0 < b) : whRun gt_ gb_ (f + 1) [some (.int (a : Nat)), some (.int (b : Nat))] s = whRun gt_ gb_ f [some (.int (b : Nat)), some (.int ((a % b : Nat) : Int))] s := by
  have t : gt_ [some (.int (a : Nat)), some (.int (b : Nat))] s = some (.ok true, s) := by
    have e : gt_ [some (.int (a : Nat)), some (.int (b : Nat))] s = some (.ok (decide ((0 : Int) < (b : Nat))), s) := te5 (op5 (s1 := s) (s2 := s) rfl rfl rfl)
    rw [e, decide_eq_true (by omega)]
  have b1 : gb_ [some (.int (a : Nat)), some (.int (b : Nat))] s = some (.nx [some (.int (b : Nat)), some (.int ((a % b : Nat) : Int))], s) := by
    have m : fMod (.int (a : Nat)) (.int (b : Nat)) s = some (.int ((a % b : Nat) : Int), s) := by
      rw [mod5 (by omega), Int.natCast_emod]
    exact par5' (cn (s1 := s) rfl (cn (op5 (s1 := s) (s2 := s) (cb5 (s1 := s) (cn (s1 := s) rfl rfl) (fInt_int _ s)) rfl m) rfl))
  conv => lhs; unfold whRun
  rw [sbind_eq, t]
  simp only [if_true, b1]
theorem gcd_loop (s : Sto) : ∀ (k a b f : Nat), b < 2 ^ k → 2 * k + 1 ≤ f → whRun gt_ gb_ f [some (.int (a : Nat)), some (.int (b : Nat))] s = some (.nx [some (.int ((Nat.gcd a b : Nat) : Int)), some (.int ((0 : Nat) : Int))], s)
  | 0, a, b, f, h, hf => by
    have : b = 0 := by simpa using h
    subst this
    rw [Nat.gcd_zero_right]
    exact gcd_stop s a f (by omega)
  | k + 1, a, b, f, h, hf => by
    obtain ⟨f, rfl⟩ : ∃ g, f = g + 2 := ⟨f - 2, by omega⟩
    by_cases hb : b = 0
    · subst hb
      rw [Nat.gcd_zero_right]
      exact gcd_stop s a _ (by omega)
    · have b0 : 0 < b := by omega
      have e1 : Nat.gcd a b = Nat.gcd b (a % b) := by rw [Nat.gcd_comm a b, Nat.gcd_rec b a, Nat.gcd_comm]
      rw [gcd_step s a b (f + 1) b0, e1]
      by_cases hr : a % b = 0
      · rw [hr, Nat.gcd_zero_right]
        exact gcd_stop s b _ (by omega)
      · have r0 : 0 < a % b := by omega
        have e2 : Nat.gcd b (a % b) = Nat.gcd (a % b) (b % (a % b)) := by rw [Nat.gcd_comm b, Nat.gcd_rec (a % b) b, Nat.gcd_comm]
        rw [gcd_step s b (a % b) f r0, e2]
        refine gcd_loop s k (a % b) (b % (a % b)) f ?_ (by omega)
        have l1 := Nat.mod_lt b r0
        have l2 := Nat.mod_lt a b0
        have l3 := Nat.div_add_mod b (a % b)
        have l4 : 1 ≤ b / (a % b) := by
          rw [Nat.le_div_iff_mul_le r0]
          omega
        have l5 : a % b * 1 ≤ a % b * (b / (a % b)) := Nat.mul_le_mul_left _ l4
        rw [Nat.pow_succ] at h
        omega
section
variable {A : Ax} {s : Sto}
theorem lgcd (A : Ax) (s : Sto) {m n : Int} (hm : 0 ≤ m) (hn : 0 ≤ n) (h : n < 2 ^ 49) : M_u_law_gcd A [.int m, .int n] s = some (.ok (.int (gI m n)), s) := by
  obtain ⟨a, rfl⟩ : ∃ a : Nat, m = a := ⟨m.toNat, by omega⟩
  obtain ⟨b, rfl⟩ : ∃ b : Nat, n = b := ⟨n.toNat, by omega⟩
  have w := gcd_loop s 49 a b 100 (by omega) (by omega)
  have hs : startD 2 [D.int (a : Nat), D.int (b : Nat)] = [some (.int (a : Nat)), some (.int (b : Nat))] := rfl
  have e : ds_u_law_gcd A = dSeq (whRun gt_ gb_ 100) (dRet (dVar 0)) := rfl
  refine fn_rt ?_
  rw [e, hs, seq_nx w]
  rfl
theorem gI_one (n : Int) : gI 1 n = 1 := by
  unfold gI
  simp
def Vo.span (v w : Vo) : Int := v.m / gI v.m w.m * w.m
theorem span_facts {v w : Vo} (m1 : 0 < v.m) (m2 : 0 < w.m) : 0 < v.span w ∧ v.m ∣ v.span w ∧ w.m ∣ v.span w ∧ v.span w ≤ v.m * w.m := by
  have g := gI_pos w.m m1
  obtain ⟨q, hq⟩ := gI_left v.m w.m
  obtain ⟨r, hr⟩ := gI_right v.m w.m
  have e : v.m / gI v.m w.m = q := Int.ediv_eq_of_eq_mul_right (by omega) hq
  have q0 : 0 < q := by
    apply Classical.byContradiction
    intro c
    have := Int.mul_le_mul_of_nonneg_left (show q ≤ 0 by omega) (Int.le_of_lt g)
    omega
  unfold Vo.span
  rw [e]
  refine ⟨Int.mul_pos q0 m2, ⟨r, ?_⟩, ⟨q, Int.mul_comm _ _⟩, ?_⟩
  · have h1 : q * w.m = q * (gI v.m w.m * r) := congrArg (q * ·) hr
    rw [h1, ← Int.mul_assoc, Int.mul_comm q]
    exact congrArg (· * r) hq.symm
  · refine Int.mul_le_mul_of_nonneg_right ?_ (Int.le_of_lt m2)
    have h1 : 1 * q ≤ gI v.m w.m * q := Int.mul_le_mul_of_nonneg_right (by omega) (Int.le_of_lt q0)
    rw [Int.one_mul, ← hq] at h1
    exact h1
abbrev spB (A : Ax) : DS := dAsg (dOp fMul (dOp fDivW (dVar 1) (dCl (argN 2 (M_u_law_gcd A)) (dCons (dVar 1) (dCons (dVar 2) dNil)))) (dVar 2)) (gN 1)
theorem ds_span_eq (A : Ax) : ds_u_law_span A = dSeq (dAsg (dC (.int 1)) (gN 1)) (dSeq (dFor (iSeqL (dVar 0)) (gTp 3 (gsCons (gN 2) (gsCons (gN 3) (gsCons (gN 4) gsNil)))) (spB A)) (dRet (dVar 1))) := rfl
theorem sp_step (x0 x3 x4 : Option D) {f m : Int} (hf : 0 < f) (f2 : f < 2 ^ 60) (hm : 0 < m) (m2 : m < 2 ^ 49) : spB A [x0, some (.int f), some (.int m), x3, x4] s = some (.nx [x0, some (.int (f / gI f m * m)), some (.int m), x3, x4], s) := by
  have c : dCl (argN 2 (M_u_law_gcd A)) (dCons (dVar 1) (dCons (dVar 2) dNil)) [x0, some (.int f), some (.int m), x3, x4] s = some (.ok (.int (gI f m)), s) := (cl5 (xs := [.int f, .int m]) (s1 := s) (cn (s1 := s) rfl (cn (s1 := s) rfl rfl))).trans ((ag5 rfl).trans (lgcd A s (by omega) (by omega) m2))
  have g := gI_pos m hf
  have g2 := gI_le m hf
  have d : (f / gI f m).natAbs < 2 ^ 64 := by
    have h1 : 0 ≤ f / gI f m := Int.ediv_nonneg (by omega) (by omega)
    have h2 : f / gI f m ≤ f := Int.ediv_le_self _ (by omega)
    omega
  exact asg (op5 (s1 := s) (s2 := s) (op5 (s1 := s) (s2 := s) rfl c (divw5 g (by omega))) rfl (mul5 d)) rfl
theorem span_run {p : Nat} {v w : Vo} (e : lstAt s p = some [v.d, w.d]) (m1 : 0 < v.m) (m2 : v.m < 2 ^ 49) (n1 : 0 < w.m) (n2 : w.m < 2 ^ 49) : M_u_law_span A [.obj p] s = some (.ok (.int (v.span w)), s) := by
  have hs : startD 5 [D.obj p] = [some (.obj p), none, none, none, none] := rfl
  have hi : iSeqL (dVar 0) [some (.obj p), some (.int 1), none, none, none] s = some (.ok ⟨[v.d, w.d], some (p, [v.d, w.d])⟩, s) := by simp [e]
  have st : Itd.still ⟨[v.d, w.d], some (p, [v.d, w.d])⟩ s = true := still_of e
  have b1 := sp_step (A := A) (s := s) (some (.obj p)) (some (.tup (v.as.map D.int))) (some (.int v.e)) (f := 1) (m := v.m) (by decide) (by decide) m1 m2
  have e1 : (1 : Int) / gI 1 v.m * v.m = v.m := by rw [gI_one]; simp
  rw [e1] at b1
  have b2 := sp_step (A := A) (s := s) (some (.obj p)) (some (.tup (w.as.map D.int))) (some (.int w.e)) (f := v.m) (m := w.m) m1 (by omega) n1 n2
  have g : ∀ (u : Vo) (x : Int) (y2 y3 y4 : Option D), gTp 3 (gsCons (gN 2) (gsCons (gN 3) (gsCons (gN 4) gsNil))) u.d [some (.obj p), some (.int x), y2, y3, y4] s = some ([some (.obj p), some (.int x), some (.int u.m), some (.tup (u.as.map D.int)), some (.int u.e)], s) := fun _ _ _ _ _ => rfl
  have lp : forRun ⟨[v.d, w.d], some (p, [v.d, w.d])⟩ (gTp 3 (gsCons (gN 2) (gsCons (gN 3) (gsCons (gN 4) gsNil)))) (spB A) [v.d, w.d] [some (.obj p), some (.int 1), none, none, none] s = some (.nx [some (.obj p), some (.int (v.span w)), some (.int w.m), some (.tup (w.as.map D.int)), some (.int w.e)], s) := by
    simp only [forRun, st, if_true, g, b1, b2]
    rfl
  refine fn_rt ?_
  have a1 : dAsg (dC (.int 1)) (gN 1) [some (.obj p), none, none, none, none] s = some (.nx [some (.obj p), some (.int 1), none, none, none], s) := rfl
  rw [ds_span_eq, hs, seq_nx a1, seq_nx (for_of hi lp)]
  rfl
end
end My

set_option maxHeartbeats 4000000
namespace My
open PySem L2 PyProof.Rows DV
/-! ### what sounds at a time, whether two voices meet -/
theorem map_ite (p : Int → Bool) : ∀ l : List Int, (l.map fun a => if p a = true then [D.int a] else []).flatten = (l.filter p).map D.int
  | [] => rfl
  | a :: l => by
    rw [List.map_cons, List.flatten_cons, map_ite p l, List.filter_cons]
    split <;> rfl
def sndP (m t x : Int) : Bool := decide (x ≤ t) && ((t - x) % m == 0)
def Vo.snd (v : Vo) (t : Int) : Bool := (v.as.map fun a => v.e + a).any (sndP v.m t)
theorem snd_iff {v : Vo} {t : Int} : v.snd t = true ↔ Snd v.m v.as v.e t := by
  unfold Vo.snd Snd
  rw [List.any_map, List.any_eq_true]
  constructor
  · rintro ⟨a, ha, h⟩
    have h2 : (decide (v.e + a ≤ t) && ((t - (v.e + a)) % v.m == 0)) = true := h
    rw [Bool.and_eq_true, decide_eq_true_iff] at h2
    exact ⟨a, ha, h2.1, by simpa using h2.2⟩
  · rintro ⟨a, ha, h1, h2⟩
    refine ⟨a, ha, ?_⟩
    show (decide (v.e + a ≤ t) && ((t - (v.e + a)) % v.m == 0)) = true
    rw [Bool.and_eq_true, decide_eq_true_iff]
    exact ⟨h1, by simpa using h2⟩
abbrev s1x : DX := dLc [8] (iSeqT (dVar 6)) (gN 8) dYes (dOp fAdd (dVar 7) (dVar 8))
abbrev s2t : DT := dAnd (dTest (dOp fLe (dVar 9) (dVar 1))) (dTest (dOp fEq (dOp fMod (dCB fInt (dCons (dOp fSub (dVar 1) (dVar 9)) dNil)) (dVar 5)) (dC (.int 0))))
abbrev s2x : DX := dLc [9] (iSeqL (dVar 4)) (gN 9) s2t (dVar 9)
def sB : DS := dSeq (dAsg s1x (gN 4)) (dIfS (dTest (dOp fNe s2x (dLst dNil))) (dDrop (dBM "list" fAppend (dVar 2) (dCons (dVar 3) dNil))) dNx)
theorem ds_snd_eq (A : Ax) : ds_u_law_sounding A = dSeq (dAsg (dLst dNil) (gN 2)) (dSeq (dFor (iEnum (dCons (dVar 0) dNil)) (gTp 2 (gsCons (gN 3) (gsCons (gTp 3 (gsCons (gN 5) (gsCons (gN 6) (gsCons (gN 7) gsNil)))) gsNil))) sB) (dRet (dCB fTuple (dCons (dVar 2) dNil)))) := rfl
theorem tyL {n : Nat} {s : Sto} {xs : List D} (h : lstAt s n = some xs) : tyD "list" (.obj n) s = true := by
  have q := lstAt_eq h
  simp [tyD, q]
theorem app5 {i n : Nat} {da : DA} {Δ : Dn} {s s1 : Sto} {xs zs : List D} {y : D} (h0 : dVar i Δ s = some (.ok (.obj n), s)) (e0 : lstAt s n = some zs) (ha : da Δ s = some (.ok [y], s1)) (e : lstAt s1 n = some xs) (hz : xs.length < sizeLine) : dDrop (dBM "list" fAppend (dVar i) da) Δ s = some (.nx Δ, s1.set n (.lst (xs ++ [y]))) := by
  have t := tyL e0
  have q : fAppend (.obj n) [y] s1 = some (.non, s1.set n (.lst (xs ++ [y]))) := by
    unfold fAppend
    simp only [e, if_pos hz]
  rw [dDrop_eq, sbind_eq]
  unfold dBM
  rw [mbind_ok, h0]
  simp only [mbind_ok, mTy, t, if_true, mret_eq, ha, DV.liftM, q]
section
variable {A : Ax} {s : Sto}
theorem s1_run (v : Vo) (hz : v.as.length ≤ 900) (x0 x1 x2 x3 x4 x8 x9 : Option D) : ∃ s', s1x [x0, x1, x2, x3, x4, some (.int v.m), some (.tup (v.as.map D.int)), some (.int v.e), x8, x9] s = some (.ok (.obj s.length), s') ∧ Gr s s' ∧ lstAt s' s.length = some ((v.as.map fun a => v.e + a).map D.int) := by
  have hi : iSeqT (dVar 6) [x0, x1, x2, x3, x4, some (.int v.m), some (.tup (v.as.map D.int)), some (.int v.e), x8, x9] s = some (.ok ⟨v.as.map D.int, none⟩, s) := rfl
  obtain ⟨s', a1, a2, a3⟩ := lcI (I := ⟨v.as.map D.int, none⟩) rfl (j := 8) (n := s.length) (de := dOp fAdd (dVar 7) (dVar 8)) (Δ := [x0, x1, x2, x3, x4, some (.int v.m), some (.tup (v.as.map D.int)), some (.int v.e), none, x9]) (f := fun a => v.e + a) (fun b s => op5 (s1 := s) (s2 := s) rfl rfl add5) v.as [] (s ++ [.lst []]) lstAt_new (by simpa using hz)
  rw [List.nil_append] at a2
  exact ⟨s', lc_of hi a1, a3 s Gr.app (Nat.le_refl _), a2⟩
theorem s2_run {m t : Int} (hm : 0 < m) {p : Nat} {l : List Int} (e : lstAt s p = some (l.map D.int)) (hz : l.length ≤ 900) (x0 x2 x3 x6 x7 x8 x9 : Option D) : ∃ s', s2x [x0, some (.int t), x2, x3, some (.obj p), some (.int m), x6, x7, x8, x9] s = some (.ok (.obj s.length), s') ∧ Gr s s' ∧ lstAt s' s.length = some ((l.filter (sndP m t)).map D.int) := by
  have hi : iSeqL (dVar 4) [x0, some (.int t), x2, x3, some (.obj p), some (.int m), x6, x7, x8, x9] s = some (.ok ⟨l.map D.int, some (p, l.map D.int)⟩, s) := by simp [e]
  obtain ⟨s', yss, e1, e2, e3, e4⟩ := lc_pure (I := ⟨l.map D.int, some (p, l.map D.int)⟩) (g := gN 9) (tt := s2t) (de := dVar 9) (Δ := [x0, some (.int t), x2, x3, some (.obj p), some (.int m), x6, x7, x8, none]) (s := s) (fun d ys => ∀ a : Int, d = D.int a → ys = if sndP m t a = true then [D.int a] else []) (fun s' g => still_of (g.lst e)) (fun d s1 hd g1 => by
    obtain ⟨x, hx, rfl⟩ := List.mem_map.mp hd
    have t1 : dTest (dOp fLe (dVar 9) (dVar 1)) [x0, some (.int t), x2, x3, some (.obj p), some (.int m), x6, x7, x8, some (.int x)] s1 = some (.ok (decide (x ≤ t)), s1) := te5 (op5 (s1 := s1) (s2 := s1) rfl rfl rfl)
    have t2 : dTest (dOp fEq (dOp fMod (dCB fInt (dCons (dOp fSub (dVar 1) (dVar 9)) dNil)) (dVar 5)) (dC (.int 0))) [x0, some (.int t), x2, x3, some (.obj p), some (.int m), x6, x7, x8, some (.int x)] s1 = some (.ok ((t - x) % m == 0), s1) :=
      te5 (op5 (s1 := s1) (s2 := s1) (op5 (s1 := s1) (s2 := s1) (cb5 (s1 := s1) (cn (s1 := s1) (op5 (s1 := s1) (s2 := s1) rfl rfl sub5) rfl) (fInt_int _ _)) rfl (mod5 hm)) rfl (fEq_int s1 _ _))
    have tt : s2t [x0, some (.int t), x2, x3, some (.obj p), some (.int m), x6, x7, x8, some (.int x)] s1 = some (.ok (sndP m t x), s1) := by
      unfold sndP
      cases c : decide (x ≤ t) with
      | true => rw [c] at t1; rw [Bool.true_and]; exact (andt5 t1).trans t2
      | false => rw [c] at t1; rw [Bool.false_and]; exact andf5 t1
    refine ⟨_, rfl, ?_⟩
    cases c : sndP m t x with
    | true =>
      rw [c] at tt
      exact .inr ⟨s1, .int x, s1, tt, rfl, Gr.refl _, fun a ha => by cases ha; rw [if_pos c]⟩
    | false =>
      rw [c] at tt
      exact .inl ⟨s1, tt, Gr.refl _, fun a ha => by cases ha; rw [if_neg (by rw [c]; simp)]⟩) (le_line (by show (l.map D.int).length ≤ 1000; rw [List.length_map]; omega))
  have e5 : yss = l.map fun a => if sndP m t a = true then [D.int a] else [] := All2.map_of (g := D.int) e3 fun a ha y q => q a rfl
  rw [e5, map_ite] at e2
  exact ⟨s', lc_of hi e1, e4, e2⟩
theorem sB_run {v : Vo} {t : Int} (hm : 0 < v.m) (hz : v.as.length ≤ 900) {n : Nat} {acc : List D} (e : lstAt s n = some acc) (ha : acc.length ≤ 900) (i : D) (x0 x4 x8 x9 : Option D) :
    ∃ y4 s', sB [x0, some (.int t), some (.obj n), some i, x4, some (.int v.m), some (.tup (v.as.map D.int)), some (.int v.e), x8, x9] s = some (.nx [x0, some (.int t), some (.obj n), some i, y4, some (.int v.m), some (.tup (v.as.map D.int)), some (.int v.e), x8, x9], s') ∧ lstAt s' n = some (acc ++ if v.snd t = true then [i] else []) ∧ ∀ s0, Gr s0 s → s0.length ≤ n → Gr s0 s' := by
  obtain ⟨s1, a1, g1, e1⟩ := s1_run (s := s) v hz x0 (some (.int t)) (some (.obj n)) (some i) x4 x8 x9
  have u1 : dAsg s1x (gN 4) [x0, some (.int t), some (.obj n), some i, x4, some (.int v.m), some (.tup (v.as.map D.int)), some (.int v.e), x8, x9] s = some (.nx [x0, some (.int t), some (.obj n), some i, some (.obj s.length), some (.int v.m), some (.tup (v.as.map D.int)), some (.int v.e), x8, x9], s1) := asg a1 rfl
  obtain ⟨s2, b1, g2, e2⟩ := s2_run (s := s1) (t := t) hm e1 (by rw [List.length_map]; exact hz) x0 (some (.obj n)) (some i) (some (.tup (v.as.map D.int))) (some (.int v.e)) x8 x9
  have ne := fNe_ints (s := s2 ++ [.lst []]) (p := s1.length) (q := s2.length) (l := (v.as.map fun a => v.e + a).filter (sndP v.m t)) (m := []) (lstAt_app e2) lstAt_new
  have t1 : dTest (dOp fNe s2x (dLst dNil)) [x0, some (.int t), some (.obj n), some i, some (.obj s.length), some (.int v.m), some (.tup (v.as.map D.int)), some (.int v.e), x8, x9] s1 = some (.ok (!decide ((v.as.map fun a => v.e + a).filter (sndP v.m t) = [])), s2 ++ [.lst []]) := te5 (op5 (s2 := s2 ++ [.lst []]) b1 (ls (xs := []) (s1 := s2) rfl (by simp)) ne)
  have fl : (!decide ((v.as.map fun a => v.e + a).filter (sndP v.m t) = [])) = v.snd t := by
    unfold Vo.snd
    rw [Bool.eq_iff_iff, Bool.not_eq_true', decide_eq_false_iff_not, List.filter_eq_nil_iff, List.any_eq_true]
    constructor
    · intro h
      apply Classical.byContradiction
      intro c
      exact h fun a ha hp => c ⟨a, ha, hp⟩
    · rintro ⟨a, ha, hp⟩ h
      exact h a ha hp
  rw [fl] at t1
  have e3 : lstAt (s2 ++ [.lst []]) n = some acc := lstAt_app (g2.lst (g1.lst e))
  have gg : Gr s (s2 ++ [.lst []]) := (g1.trans g2).trans Gr.app
  cases c : v.snd t with
  | true =>
    rw [c] at t1
    have u2 := app5 (i := 2) (n := n) (s := s2 ++ [.lst []]) (Δ := [x0, some (.int t), some (.obj n), some i, some (.obj s.length), some (.int v.m), some (.tup (v.as.map D.int)), some (.int v.e), x8, x9]) (da := dCons (dVar 3) dNil) (y := i) rfl e3 (cn (s1 := s2 ++ [.lst []]) rfl rfl) e3 (Nat.lt_of_lt_of_le (show acc.length < 1000 by omega) (le_line (by decide)))
    refine ⟨some (.obj s.length), (s2 ++ [DO.lst []]).set n (.lst (acc ++ [i])), ?_, ?_, fun s0 g l => (g.trans gg).set l⟩
    · unfold sB
      rw [seq_nx u1, if5 t1, if_pos rfl]
      exact u2
    · rw [if_pos rfl]
      exact lstAt_set e3
  | false =>
    rw [c] at t1
    refine ⟨some (.obj s.length), s2 ++ [DO.lst []], ?_, ?_, fun s0 g l => g.trans gg⟩
    · unfold sB
      rw [seq_nx u1]
      exact no5 t1
    · rw [if_neg (by simp), List.append_nil]
      exact e3
theorem snd_run {p : Nat} {v w : Vo} {t : Int} (e : lstAt s p = some [v.d, w.d]) (m1 : 0 < v.m) (n1 : 0 < w.m) (z1 : v.as.length ≤ 900) (z2 : w.as.length ≤ 900) :
    ∃ s', M_u_law_sounding A [.obj p, .int t] s = some (.ok (.tup ((if v.snd t = true then [.int 0] else []) ++ (if w.snd t = true then [.int 1] else []))), s') ∧ Gr s s' := by
  have hs : startD 10 [.obj p, .int t] = [some (.obj p), some (.int t), none, none, none, none, none, none, none, none] := rfl
  have a1 : dAsg (dLst dNil) (gN 2) [some (.obj p), some (.int t), none, none, none, none, none, none, none, none] s = some (.nx [some (.obj p), some (.int t), some (.obj s.length), none, none, none, none, none, none, none], s ++ [.lst []]) := asg (ls (s1 := s) rfl (by simp)) rfl
  have e0 : lstAt (s ++ [.lst []]) p = some [v.d, w.d] := lstAt_app e
  have hi : iEnum (dCons (dVar 0) dNil) [some (.obj p), some (.int t), some (.obj s.length), none, none, none, none, none, none, none] (s ++ [.lst []]) = some (.ok ⟨[.tup [.int 0, v.d], .tup [.int 1, w.d]], some (p, [v.d, w.d])⟩, s ++ [.lst []]) := by
    rw [iEnum_eq, mbind_ok, cn (x := .obj p) (xs := []) (s1 := s ++ [.lst []]) (s2 := s ++ [.lst []]) rfl rfl]
    simp only [e0]
    rfl
  have g : ∀ (i : Int) (u : Vo) (y3 y4 y5 y6 y7 : Option D) (s' : Sto), gTp 2 (gsCons (gN 3) (gsCons (gTp 3 (gsCons (gN 5) (gsCons (gN 6) (gsCons (gN 7) gsNil)))) gsNil)) (.tup [.int i, u.d]) [some (.obj p), some (.int t), some (.obj s.length), y3, y4, y5, y6, y7, none, none] s' = some ([some (.obj p), some (.int t), some (.obj s.length), some (.int i), y4, some (.int u.m), some (.tup (u.as.map D.int)), some (.int u.e), none, none], s') := fun _ _ _ _ _ _ _ _ => rfl
  obtain ⟨y4, s1, b1, e1, g1⟩ := sB_run (s := s ++ [.lst []]) (t := t) (v := v) m1 z1 (n := s.length) (acc := []) lstAt_new (by simp) (.int 0) (some (.obj p)) none none none
  have G1 := g1 s Gr.app (Nat.le_refl _)
  obtain ⟨z4, s2, b2, e2, g2⟩ := sB_run (s := s1) (t := t) (v := w) n1 z2 (n := s.length) e1 (by split <;> simp) (.int 1) (some (.obj p)) y4 none none
  have G2 := g2 s G1 (Nat.le_refl _)
  have st0 : Itd.still ⟨[.tup [.int 0, v.d], .tup [.int 1, w.d]], some (p, [v.d, w.d])⟩ (s ++ [.lst []]) = true := still_of e0
  have st1 : Itd.still ⟨[.tup [.int 0, v.d], .tup [.int 1, w.d]], some (p, [v.d, w.d])⟩ s1 = true := still_of (G1.lst e)
  have st2 : Itd.still ⟨[.tup [.int 0, v.d], .tup [.int 1, w.d]], some (p, [v.d, w.d])⟩ s2 = true := still_of (G2.lst e)
  have lp : forRun ⟨[.tup [.int 0, v.d], .tup [.int 1, w.d]], some (p, [v.d, w.d])⟩ (gTp 2 (gsCons (gN 3) (gsCons (gTp 3 (gsCons (gN 5) (gsCons (gN 6) (gsCons (gN 7) gsNil)))) gsNil))) sB [.tup [.int 0, v.d], .tup [.int 1, w.d]] [some (.obj p), some (.int t), some (.obj s.length), none, none, none, none, none, none, none] (s ++ [.lst []]) = some (.nx [some (.obj p), some (.int t), some (.obj s.length), some (.int 1), z4, some (.int w.m), some (.tup (w.as.map D.int)), some (.int w.e), none, none], s2) := by
    simp only [forRun, st0, st1, st2, if_true, g, b1, b2]
  refine ⟨s2, fn_rt ?_, G2⟩
  rw [ds_snd_eq, hs, seq_nx a1, seq_nx (for_of hi lp), dRet_eq, sbind_eq, cb5 (cn (s1 := s2) rfl rfl) (tuple_obj e2)]
  rw [List.nil_append]
end
end My

set_option maxHeartbeats 4000000
namespace My
open PySem L2 PyProof.Rows DV
/-! ### two voices meet -/
theorem range2 {da : DA} {Δ : Dn} {s s1 : Sto} {i j : Int} (h : da Δ s = some (.ok [.int i, .int j], s1)) (hi : 0 ≤ i ∧ i ≤ 100000) (hj : 0 ≤ j ∧ j ≤ 100000) : iRange2 da Δ s = some (.ok (rngI i (j - i).toNat), s1) := by
  have r1 : rngOk i = true := by
    unfold rngOk
    rw [decide_eq_true (by omega), decide_eq_true (by omega)]
    rfl
  have r2 : rngOk j = true := by
    unfold rngOk
    rw [decide_eq_true (by omega), decide_eq_true (by omega)]
    rfl
  rw [iRange2_eq, mbind_ok, h]
  simp only [r1, r2, Bool.and_self, if_true]
theorem ones_flat (p : Int → Bool) : ∀ l : List Int, (l.map fun a => if p a = true then [D.int 1] else []).flatten = ((l.filter p).map fun _ => (1 : Int)).map D.int
  | [] => rfl
  | a :: l => by
    rw [List.map_cons, List.flatten_cons, ones_flat p l, List.filter_cons]
    split <;> rfl
def Vo.late (w : Vo) (k : Int) : Vo := ⟨w.m, w.as, w.e + k⟩
def rgI (lo : Int) (n : Nat) : List Int := (List.range n).map fun (j : Nat) => lo + (j : Nat)
theorem rgI_its (lo : Int) (n : Nat) : (rngI lo n).its = (rgI lo n).map D.int := by
  unfold rngI rgI
  rw [List.map_map]
  rfl
theorem rgI_mem {lo t : Int} {n : Nat} : t ∈ rgI lo n ↔ lo ≤ t ∧ t < lo + n := by
  unfold rgI
  rw [List.mem_map]
  constructor
  · rintro ⟨j, hj, rfl⟩
    have := List.mem_range.mp hj
    omega
  · intro h
    exact ⟨(t - lo).toNat, List.mem_range.mpr (by omega), by omega⟩
theorem rng_len' (lo : Int) (n : Nat) : (rngI lo n).its.length = n := by simp [rngI]
theorem rgI_len (lo : Int) (n : Nat) : (rgI lo n).length = n := by
  unfold rgI
  rw [List.length_map, List.length_range]
abbrev m1s : DS := dAsg (dLst (dCons (dVar 0) (dCons (dTup (dCons (dOp fIx (dVar 1) (dC (.int 0))) (dCons (dOp fIx (dVar 1) (dC (.int 1))) (dCons (dOp fAdd (dOp fIx (dVar 1) (dC (.int 2))) (dVar 2)) dNil)))) dNil))) (gN 3)
abbrev m2s : DS := dAsg (dCB fMaxA (dCons (dOp fIx (dOp fIx (dVar 3) (dC (.int 0))) (dC (.int 2))) (dCons (dOp fIx (dOp fIx (dVar 3) (dC (.int 1))) (dC (.int 2))) dNil))) (gN 4)
abbrev m3t (A : Ax) : DT := dTest (dOp fEq (dCB fLen (dCons (dCl (argN 2 (M_u_law_sounding A)) (dCons (dVar 3) (dCons (dVar 5) dNil))) dNil)) (dC (.int 2)))
abbrev m3x (A : Ax) : DX := dLc [5] (iRange2 (dCons (dVar 4) (dCons (dOp fAdd (dVar 4) (dCl (argN 1 (M_u_law_span A)) (dCons (dVar 3) dNil))) dNil))) (gN 5) (m3t A) (dC (.int 1))
theorem ds_meet_eq (A : Ax) : ds_u_law_meet A = dSeq m1s (dSeq m2s (dRet (dOp fNe (m3x A) (dLst dNil)))) := rfl
/-- what holds of the voices that the law draws -/
structure Sv (M : Int) (v : Vo) : Prop where
  m1 : 0 < v.m
  m2 : v.m ≤ M
  a1 : 1 ≤ v.as.length
  a2 : v.as.length ≤ 4
  ain : ∀ a ∈ v.as, 0 ≤ a ∧ a < v.m
  up : v.as.Pairwise (· < ·)
  e0 : 0 ≤ v.e
  e1 : v.e ≤ 1000000000000000
section
variable {A : Ax} {s : Sto}
theorem meet_run {v w : Vo} (hv : Sv 24 v) (hw : Sv 24 w) (ev : v.e ≤ 60) (ew : w.e ≤ 60) {k : Int} (k0 : 0 ≤ k) (k1 : k ≤ 1000) :
    ∃ s', M_u_law_meet A [v.d, w.d, .int k] s = some (.ok (.bl (decide (k % gI v.m w.m ∈ v.cl w))), s') ∧ Gr s s' := by
  have hs : startD 6 [v.d, w.d, .int k] = [some v.d, some w.d, some (.int k), none, none, none] := rfl
  have v1 := hv.m1
  have v2 := hv.m2
  have w1 := hw.m1
  have w2 := hw.m2
  have hw' : w.late k = ⟨w.m, w.as, w.e + k⟩ := rfl
  have a1 : m1s [some v.d, some w.d, some (.int k), none, none, none] s = some (.nx [some v.d, some w.d, some (.int k), some (.obj s.length), none, none], s ++ [.lst [v.d, (w.late k).d]]) :=
    asg (ls (s1 := s) (cn (s1 := s) rfl (cn (tp (cn (op5 (s1 := s) (s2 := s) rfl rfl ix3_0) (cn (op5 (s1 := s) (s2 := s) rfl rfl ix3_1) (cn (op5 (s1 := s) (s2 := s) (op5 (s1 := s) (s2 := s) rfl rfl ix3_2) rfl add5) rfl))) (by simp)) rfl)) (by simp)) rfl
  have e1 : lstAt (s ++ [DO.lst [v.d, (w.late k).d]]) s.length = some [v.d, (w.late k).d] := lstAt_new
  have G0 : Gr s (s ++ [DO.lst [v.d, (w.late k).d]]) := Gr.app
  generalize (s ++ [DO.lst [v.d, (w.late k).d]]) = s1 at *
  have i0 : fIx (.obj s.length) (.int 0) s1 = some (v.d, s1) := by rw [fIx_obj, e1]; rfl
  have i1 : fIx (.obj s.length) (.int 1) s1 = some ((w.late k).d, s1) := by rw [fIx_obj, e1]; rfl
  have a2 : m2s [some v.d, some w.d, some (.int k), some (.obj s.length), none, none] s1 = some (.nx [some v.d, some w.d, some (.int k), some (.obj s.length), some (.int (maxI v.e (w.e + k))), none], s1) :=
    asg (cb5 (s1 := s1) (cn (op5 (s1 := s1) (s2 := s1) (op5 (s1 := s1) (s2 := s1) rfl rfl i0) rfl ix3_2) (cn (op5 (s1 := s1) (s2 := s1) (op5 (s1 := s1) (s2 := s1) rfl rfl i1) rfl ix3_2) rfl)) rfl) rfl
  obtain ⟨L0, L1, L2, L3⟩ := span_facts (v := v) (w := w.late k) v1 w1
  have L4 : v.m * w.m ≤ 24 * 24 := Int.mul_le_mul v2 w2 (by omega) (by decide)
  have sp := span_run (A := A) (s := s1) (p := s.length) (v := v) (w := w.late k) e1 v1 (by omega) w1 (by show w.m < 2 ^ 49; omega)
  have L5 : v.span (w.late k) ≤ 576 := Int.le_trans L3 L4
  generalize hL : v.span (w.late k) = L at *
  have toN : ((L.toNat : Nat) : Int) = L := Int.toNat_of_nonneg (Int.le_of_lt L0)
  have mx : maxI v.e (w.e + k) ≤ 2000 ∧ 0 ≤ maxI v.e (w.e + k) := by
    have := hv.e0
    unfold maxI
    split <;> omega
  have rg : iRange2 (dCons (dVar 4) (dCons (dOp fAdd (dVar 4) (dCl (argN 1 (M_u_law_span A)) (dCons (dVar 3) dNil))) dNil)) [some v.d, some w.d, some (.int k), some (.obj s.length), some (.int (maxI v.e (w.e + k))), none] s1 = some (.ok (rngI (maxI v.e (w.e + k)) (maxI v.e (w.e + k) + L - maxI v.e (w.e + k)).toNat), s1) :=
    range2 (cn (s1 := s1) rfl (cn (op5 (s1 := s1) (s2 := s1) rfl ((cl5 (xs := [.obj s.length]) (s1 := s1) (cn (s1 := s1) rfl rfl)).trans ((ag5 rfl).trans sp)) add5) rfl)) (by omega) (by omega)
  have eL : (maxI v.e (w.e + k) + L - maxI v.e (w.e + k)).toNat = L.toNat := by
    congr 1
    omega
  rw [eL] at rg
  obtain ⟨s2, yss, q1, q2, q3, q4⟩ := lc_pure (I := rngI (maxI v.e (w.e + k)) L.toNat) (g := gN 5) (tt := m3t A) (de := dC (.int 1)) (Δ := [some v.d, some w.d, some (.int k), some (.obj s.length), some (.int (maxI v.e (w.e + k))), none]) (s := s1) (fun d ys => ∀ t : Int, d = D.int t → ys = if (v.snd t && (w.late k).snd t) = true then [D.int 1] else []) (fun s' g => rfl) (fun d s' hd g1 => by
    rw [rgI_its] at hd
    obtain ⟨t, ht, rfl⟩ := List.mem_map.mp hd
    obtain ⟨s3, c1, c2⟩ := snd_run (A := A) (s := s') (p := s.length) (v := v) (w := w.late k) (t := t) (g1.lst e1) v1 w1 (by have := hv.a2; omega) (by have := hw.a2; show w.as.length ≤ 900; omega)
    have ln : ∀ b c : Bool, fLen [.tup ((if b = true then [D.int 0] else []) ++ (if c = true then [D.int 1] else []))] s3 = some (.int (if (b && c) = true then 2 else if (b || c) = true then 1 else 0), s3) := fun b c => by
      have l2 : (2 : Nat) ≤ sizeLine := le_line (by decide)
      have l1 : (1 : Nat) ≤ sizeLine := le_line (by decide)
      cases b <;> cases c <;> simp [fLen, l1, l2]
    have tt : m3t A [some v.d, some w.d, some (.int k), some (.obj s.length), some (.int (maxI v.e (w.e + k))), some (.int t)] s' = some (.ok (v.snd t && (w.late k).snd t), s3) := by
      have c3 : dCl (argN 2 (M_u_law_sounding A)) (dCons (dVar 3) (dCons (dVar 5) dNil)) [some v.d, some w.d, some (.int k), some (.obj s.length), some (.int (maxI v.e (w.e + k))), some (.int t)] s' = some (.ok (.tup ((if v.snd t = true then [D.int 0] else []) ++ (if (w.late k).snd t = true then [D.int 1] else []))), s3) := (cl5 (xs := [.obj s.length, .int t]) (s1 := s') (cn (s1 := s') rfl (cn (s1 := s') rfl rfl))).trans ((ag5 rfl).trans c1)
      have q : m3t A [some v.d, some w.d, some (.int k), some (.obj s.length), some (.int (maxI v.e (w.e + k))), some (.int t)] s' = some (.ok (((if (v.snd t && (w.late k).snd t) = true then 2 else if (v.snd t || (w.late k).snd t) = true then 1 else 0) : Int) == 2), s3) := te5 (op5 (s1 := s3) (s2 := s3) (cb5 (cn c3 rfl) (ln _ _)) rfl (fEq_int s3 _ _))
      cases hb : v.snd t <;> cases hc : (w.late k).snd t <;> rw [hb, hc] at q <;> exact q
    refine ⟨_, rfl, ?_⟩
    cases c : (v.snd t && (w.late k).snd t) with
    | true =>
      rw [c] at tt
      exact .inr ⟨s3, .int 1, s3, tt, rfl, c2, fun a ha => by cases ha; rw [if_pos c]⟩
    | false =>
      rw [c] at tt
      exact .inl ⟨s3, tt, c2, fun a ha => by cases ha; rw [if_neg (by rw [c]; simp)]⟩) (le_line (by rw [rng_len']; omega))
  rw [rgI_its] at q3
  have e5 : yss = (rgI (maxI v.e (w.e + k)) L.toNat).map fun t => if (v.snd t && (w.late k).snd t) = true then [D.int 1] else [] := All2.map_of (g := D.int) q3 fun a ha y q => q a rfl
  rw [e5, ones_flat (fun t => v.snd t && (w.late k).snd t)] at q2
  have c1 : m3x A [some v.d, some w.d, some (.int k), some (.obj s.length), some (.int (maxI v.e (w.e + k))), none] s1 = some (.ok (.obj s1.length), s2) := lc_of rg q1
  have ne := fNe_ints (s := s2 ++ [.lst []]) (p := s1.length) (q := s2.length) (m := []) (lstAt_app q2) lstAt_new
  have fl : (!decide (((rgI (maxI v.e (w.e + k)) L.toNat).filter (fun t => v.snd t && (w.late k).snd t)).map (fun _ => (1 : Int)) = [])) = decide (k % gI v.m w.m ∈ v.cl w) := by
    rw [Bool.eq_iff_iff, Bool.not_eq_true', decide_eq_false_iff_not, decide_eq_true_iff]
    have mi := meet_iff (m := v.m) (n := w.m) (e := v.e) (f := w.e + k) (L := L) (as := v.as) (bs := w.as) v1 w1 L0 L1 L2 hv.ain hw.ain
    have cm := clash_of (m := v.m) (n := w.m) (e := v.e) (f := w.e) (w := k) (as := v.as) (bs := w.as) v1
    refine Iff.trans ?_ (mi.trans cm.symm)
    rw [List.map_eq_nil_iff, List.filter_eq_nil_iff]
    constructor
    · intro h
      apply Classical.byContradiction
      intro c
      refine h fun t ht hp => c ⟨t, ?_⟩
      rw [rgI_mem, toN] at ht
      rw [Bool.and_eq_true] at hp
      exact ⟨ht.1, ht.2, snd_iff.mp hp.1, snd_iff.mp hp.2⟩
    · rintro ⟨t, t1, t2, t3, t4⟩ h
      refine h t (rgI_mem.mpr ⟨t1, by rw [toN]; exact t2⟩) ?_
      rw [Bool.and_eq_true]
      exact ⟨snd_iff.mpr t3, (snd_iff (v := w.late k)).mpr t4⟩
  rw [fl] at ne
  refine ⟨s2 ++ [.lst []], fn_rt ?_, (G0.trans q4).trans Gr.app⟩
  have fin : dOp fNe (m3x A) (dLst dNil) [some v.d, some w.d, some (.int k), some (.obj s.length), some (.int (maxI v.e (w.e + k))), none] s1 = some (.ok (.bl (decide (k % gI v.m w.m ∈ v.cl w))), s2 ++ [.lst []]) := op5 (s2 := s2 ++ [.lst []]) c1 (ls (xs := []) (s1 := s2) rfl (by simp)) ne
  rw [ds_meet_eq, hs, seq_nx a1, seq_nx a2, dRet_eq, sbind_eq, fin]
end
end My

set_option maxHeartbeats 4000000
namespace My
open PySem L2 PyProof.Rows DV
/-! ### drawn voices -/
theorem ints_flat {m : Int} : ∀ {r : List D} {yss : List (List D)}, All2 (fun (_ : D) ys => ∃ a : Int, (0 ≤ a ∧ a < m) ∧ ys = [D.int a]) r yss → ∃ L : List Int, yss.flatten = L.map D.int ∧ L.length = r.length ∧ ∀ a ∈ L, 0 ≤ a ∧ a < m
  | _, _, .nil => ⟨[], rfl, rfl, fun a h => by cases h⟩
  | _, _, .cons ⟨a, h1, h2⟩ t => by
    obtain ⟨L, l1, l2, l3⟩ := ints_flat t
    refine ⟨a :: L, by rw [List.flatten_cons, h2, l1]; rfl, by simp [l2], fun b hb => ?_⟩
    rcases List.mem_cons.mp hb with rfl | hb
    · exact h1
    · exact l3 b hb
theorem lc_draws {I : Itd} (hI : I.src = none) {j st K : Nat} {de : DX} {Δ : Dn} {m : Int} {s : Sto} (lt : st < s.length)
    (hd : ∀ (d : D) (k : Nat) (s' : Sto), Rnd s' st (k + 1) → ∃ (a : Nat) (s'' : Sto), de (Δ.set j (some d)) s' = some (.ok (.int (a : Nat)), s'') ∧ ((a : Nat) : Int) < m ∧ Rnd s'' st k ∧ Sm st s' s'')
    (h : Rnd s st (K + I.its.length)) (hz : I.its.length ≤ 900) :
    ∃ s' L, lcRun I (gN j) dYes de s.length I.its Δ (s ++ [.lst []]) = some s' ∧ lstAt s' s.length = some (List.map D.int L) ∧ L.length = I.its.length ∧ (∀ a ∈ L, 0 ≤ a ∧ a < m) ∧ Rnd s' st K ∧ Sm st s s' := by
  obtain ⟨s', yss, h1, h2, h3, h4⟩ := lc_gen (I := I) (g := gN j) (tt := dYes) (de := de) (n := s.length) (Δ := Δ) (fun k s' => Rnd s' st (K + k) ∧ Sm st s s') (fun _ ys => ∃ a : Int, (0 ≤ a ∧ a < m) ∧ ys = [D.int a]) (fun k s' _ => by unfold Itd.still; rw [hI]) (fun k d s' acc _ ⟨r, sm⟩ e => by
    obtain ⟨a, s2, b1, b2, b3, b4⟩ := hd d (K + k) s' r
    have ne : s.length ≠ st := by omega
    exact ⟨Δ.set j (some d), rfl, .inr ⟨s', .int (a : Nat), s2, rfl, b1, b4.lst e ne, ⟨a, ⟨by omega, b2⟩, rfl⟩, b3.set (by omega), (sm.trans b4).setN (Nat.le_refl _)⟩⟩) I.its (s ++ [.lst []]) [] (fun _ h => h) ⟨h.app, Sm.app⟩ lstAt_new (le_line (by simp; omega))
  obtain ⟨L, l1, l2, l3⟩ := ints_flat h3
  exact ⟨s', L, h1, by rw [h2, List.nil_append, l1], l2, l3, by simpa using h4.1, h4.2⟩
section
variable {A : Ax} {s : Sto} {st K : Nat}
theorem drw2 {Δ : Dn} {i m : Nat} {n : DX} (hi : Δ[i]? = some (some (.obj st))) (hn : n Δ s = some (.ok (.int (m : Nat)), s)) (h : Rnd s st (K + 1)) (h0 : 0 < m) (h1 : m < 2 ^ 99) : ∃ (v : Nat) (s' : Sto), drw A i n Δ s = some (.ok (.int (v : Nat)), s') ∧ v < m ∧ Rnd s' st K ∧ Sm st s s' := by
  obtain ⟨v, s', hd, v0, v1, r, sm⟩ := draw A (m := (m : Nat)) h (by omega) (by omega)
  obtain ⟨c, rfl⟩ : ∃ c : Nat, v = c := ⟨v.toNat, by omega⟩
  have w : dVar i Δ s = some (.ok (.obj st), s) := by rw [dVar_eq, hi]
  exact ⟨c, s', (cl5 (xs := [.obj st, .int (m : Nat)]) (cn w (cn hn rfl))).trans ((ag5 rfl).trans hd), by omega, r, sm⟩
/-- sorted(set([draw(state, m) for _ in range(1 + draw(state, c))])) -/
theorem onsets_of {Δ : Dn} {j m c : Nat} {n : DX} (h0 : Δ[0]? = some (some (.obj st))) (hj : j ≠ 0) (hn : ∀ (d : D) (s' : Sto), n ((wipeD Δ [j]).set j (some d)) s' = some (.ok (.int (m : Nat)), s')) (hw : ∀ d : D, ((wipeD Δ [j]).set j (some d))[0]? = some (some (.obj st))) (h : Rnd s st (K + 1 + c)) (m0 : 0 < m) (m1 : m < 2 ^ 99) (c0 : 0 < c) (c1 : c ≤ 60) :
    ∃ (as : List Int) (s' : Sto), dSortSet (dCons (dLc [j] (iRange1 (dCons (dOp fAdd (dC (.int 1)) (drw A 0 (dC (.int (c : Nat))))) dNil)) (gN j) dYes (drw A 0 n)) dNil) Δ s = some (.ok (.obj s'.length), s' ++ [.lst (as.map D.int)]) ∧ 1 ≤ as.length ∧ as.length ≤ c ∧ (∀ a ∈ as, 0 ≤ a ∧ a < m) ∧ as.Pairwise (· < ·) ∧ Rnd s' st K ∧ Sm st s s' := by
  obtain ⟨v, s1, d1, v1, r1, q1⟩ := drw2 (A := A) (K := K + c) (Δ := Δ) (i := 0) (n := dC (.int (c : Nat))) (m := c) h0 rfl (h.mono (by omega)) c0 (by omega)
  have lt := r1.lt
  have ra : (dCons (dOp fAdd (dC (.int 1)) (drw A 0 (dC (.int (c : Nat))))) dNil) Δ s = some (.ok [.int ((1 + v : Nat) : Int)], s1) := by
    refine cn (op5 (s1 := s) rfl d1 ?_) rfl
    rw [add5, Int.natCast_add]
    rfl
  have il : (rngI 0 (1 + v)).its.length = 1 + v := by simp [rngI]
  obtain ⟨s2, L, l1, l2, l3, l4, l5, l6⟩ := lc_draws (I := rngI 0 (1 + v)) rfl (j := j) (st := st) (K := K) (de := drw A 0 n) (Δ := wipeD Δ [j]) (m := (m : Nat)) (s := s1) lt (fun d k s' hr => by
    obtain ⟨a, s'', b1, b2, b3, b4⟩ := drw2 (A := A) (K := k) (s := s') (i := 0) (n := n) (m := m) (hw d) (hn d s') hr m0 m1
    exact ⟨a, s'', b1, by omega, b3, b4⟩) (r1.mono (by omega)) (by omega)
  have cc := lc_of (vs := [j]) (range1 (k := 1 + v) ra (by omega)) l1
  refine ⟨usort L, s2, sortSet5 (cn cc rfl) l2 (by omega), ?_, ?_, fun a ha => l4 a ((usort_mem L a).mp ha), usort_lt L, l5, q1.trans l6⟩
  · cases L with
    | nil => simp at l3; omega
    | cons a r =>
      have : a ∈ usort (a :: r) := (usort_mem _ a).mpr (by simp)
      exact List.length_pos_of_mem this
  · have := pig (usort L) L ((usort_lt L).imp fun z => by omega) fun a ha => (usort_mem L a).mp ha
    omega
abbrev y1s (A : Ax) : DS := dAsg (dCl (argN 2 (M_u_law_pick A)) (dCons (dVar 0) (dCons (dVar 1) dNil))) (gN 2)
abbrev y2s (A : Ax) : DS := dAsg (dSortSet (dCons (dLc [4] (iRange1 (dCons (dOp fAdd (dC (.int 1)) (drw A 0 (dC (.int 4)))) dNil)) (gN 4) dYes (drw A 0 (dVar 2))) dNil)) (gN 3)
abbrev y3d (A : Ax) : DA := dCons (dC (.int 0)) (dCons (dC (.int 0)) (dCons (drw A 0 (dVar 2)) (dCons (drw A 0 (dC (.int 60))) dNil)))
abbrev y3x (A : Ax) : DX := dTup (dCons (dVar 2) (dCons (dCB fTuple (dCons (dVar 3) dNil)) (dCons (dCl (argN 2 (M_u_law_pick A)) (dCons (dVar 0) (dCons (dLst (y3d A)) dNil))) dNil)))
theorem ds_lvoice_eq (A : Ax) : ds_u_law_voice A = dSeq (y1s A) (dSeq (y2s A) (dRet (y3x A))) := rfl
theorem voice_run {p : Nat} {lens : List Int} (h : Rnd s st (K + 10)) (e : lstAt s p = some (lens.map D.int)) (hp : p ≠ st) (hl : ∀ x ∈ lens, 1 ≤ x ∧ x ≤ 24) (h0 : 0 < lens.length) (h1 : lens.length ≤ 900) :
    ∃ v s', M_u_law_voice A [.obj st, .obj p] s = some (.ok (Vo.d v), s') ∧ Sv 24 v ∧ v.e ≤ 60 ∧ Rnd s' st K ∧ Sm st s s' := by
  have hs : startD 5 [.obj st, .obj p] = [some (.obj st), some (.obj p), none, none, none] := rfl
  obtain ⟨d, s1, p1, p2, r1, q1⟩ := pick A (n := st) (k := K + 9) h e hp (by rw [List.length_map]; exact h0) (by rw [List.length_map]; omega)
  obtain ⟨x, hx, rfl⟩ := List.mem_map.mp p2
  obtain ⟨x0, x1⟩ := hl x hx
  obtain ⟨m, rfl⟩ : ∃ m : Nat, x = m := ⟨x.toNat, by omega⟩
  have a1 : y1s A [some (.obj st), some (.obj p), none, none, none] s = some (.nx [some (.obj st), some (.obj p), some (.int (m : Nat)), none, none], s1) := asg ((cl5 (xs := [.obj st, .obj p]) (s1 := s) (cn (s1 := s) rfl (cn (s1 := s) rfl rfl))).trans ((ag5 rfl).trans p1)) rfl
  obtain ⟨as, s2, b1, b2, b3, b4, b5, r2, q2⟩ := onsets_of (A := A) (K := K + 4) (s := s1) (Δ := [some (.obj st), some (.obj p), some (.int (m : Nat)), none, none]) (j := 4) (m := m) (c := 4) (n := dVar 2) rfl (by decide) (fun d s' => rfl) (fun d => rfl) (r1.mono (by omega)) (by omega) (by omega) (by decide) (by decide)
  have a2 : y2s A [some (.obj st), some (.obj p), some (.int (m : Nat)), none, none] s1 = some (.nx [some (.obj st), some (.obj p), some (.int (m : Nat)), some (.obj s2.length), none], s2 ++ [.lst (as.map D.int)]) := asg b1 rfl
  have e2 : lstAt (s2 ++ [.lst (as.map D.int)]) s2.length = some (as.map D.int) := lstAt_new
  obtain ⟨u, s3, c1, c2, r3, q3⟩ := drw2 (A := A) (K := K + 2) (s := s2 ++ [.lst (as.map D.int)]) (Δ := [some (.obj st), some (.obj p), some (.int (m : Nat)), some (.obj s2.length), none]) (i := 0) (n := dVar 2) (m := m) rfl rfl (r2.app.mono (by omega)) (by omega) (by omega)
  obtain ⟨w, s4, d1, d2, r4, q4⟩ := drw2 (A := A) (K := K + 1) (s := s3) (Δ := [some (.obj st), some (.obj p), some (.int (m : Nat)), some (.obj s2.length), none]) (i := 0) (n := dC (.int (60 : Nat))) (m := 60) rfl rfl r3 (by decide) (by decide)
  have dx : y3d A [some (.obj st), some (.obj p), some (.int (m : Nat)), some (.obj s2.length), none] (s2 ++ [.lst (as.map D.int)]) = some (.ok [.int 0, .int 0, .int (u : Nat), .int (w : Nat)], s4) := cn (s1 := s2 ++ [.lst (as.map D.int)]) rfl (cn (s1 := s2 ++ [.lst (as.map D.int)]) rfl (cn c1 (cn d1 rfl)))
  obtain ⟨d, s5, f1, f2, r5, q5⟩ := pick_gen (A := A) (K := K) (i := 0) (Δ := [some (.obj st), some (.obj p), some (.int (m : Nat)), some (.obj s2.length), none]) rfl dx r4 (by simp) (by simp)
  obtain ⟨z, hz, rfl⟩ : ∃ z : Int, (0 ≤ z ∧ z ≤ 60) ∧ d = .int z := by
    simp only [List.mem_cons, List.not_mem_nil, or_false] at f2
    rcases f2 with rfl | rfl | rfl | rfl
    · exact ⟨0, by omega, rfl⟩
    · exact ⟨0, by omega, rfl⟩
    · exact ⟨(u : Nat), by omega, rfl⟩
    · exact ⟨(w : Nat), by omega, rfl⟩
  have t3 : dCB fTuple (dCons (dVar 3) dNil) [some (.obj st), some (.obj p), some (.int (m : Nat)), some (.obj s2.length), none] (s2 ++ [.lst (as.map D.int)]) = some (.ok (.tup (as.map D.int)), s2 ++ [.lst (as.map D.int)]) := cb5 (xs := [.obj s2.length]) (s1 := s2 ++ [.lst (as.map D.int)]) (cn (s1 := s2 ++ [.lst (as.map D.int)]) rfl rfl) (tuple_obj e2)
  have fin : y3x A [some (.obj st), some (.obj p), some (.int (m : Nat)), some (.obj s2.length), none] (s2 ++ [.lst (as.map D.int)]) = some (.ok (.tup [.int (m : Nat), .tup (as.map D.int), .int z]), s5) :=
    tp (xs := [.int (m : Nat), .tup (as.map D.int), .int z]) (cn (x := .int (m : Nat)) (s1 := s2 ++ [.lst (as.map D.int)]) rfl (cn t3 (cn f1 rfl))) (by simp)
  refine ⟨⟨(m : Nat), as, z⟩, s5, fn_rt ?_, ⟨by show (0 : Int) < (m : Nat); omega, by show ((m : Nat) : Int) ≤ 24; omega, b2, b3, b4, b5, hz.1, by have := hz.2; show z ≤ 1000000000000000; omega⟩, hz.2, r5, (((q1.trans q2).trans Sm.app).trans (q3.trans q4)).trans q5⟩
  rw [ds_lvoice_eq, hs, seq_nx a1, seq_nx a2, dRet_eq, sbind_eq, fin]
  rfl
theorem adj_int : ∀ l : List Int, l.Pairwise (· < ·) → adjI l = true
  | [], _ => by simp [adjI]
  | [a], _ => by simp [adjI]
  | a :: b :: r, h => by
    obtain ⟨h1, h2⟩ := List.pairwise_cons.mp h
    have ih := adj_int (b :: r) h2
    have e : adjI (a :: b :: r) = (decide (a < b) && adjI (b :: r)) := rfl
    rw [e, ih, decide_eq_true (h1 b (by simp))]
    rfl
theorem Sv.voB {M : Int} {v : Vo} (h : Sv M v) (hM : M ≤ 1000000000000) : voB v = true := by
  have m1 := h.m1
  have m2 := h.m2
  have a1 := h.a1
  have a2 := h.a2
  have al : v.as.all (in01 v.m) = true := List.all_eq_true.mpr fun a ha => by
    obtain ⟨z0, z1⟩ := h.ain a ha
    unfold in01
    rw [decide_eq_true z0, decide_eq_true z1]
    rfl
  unfold My.voB
  rw [al, adj_int v.as h.up, decide_eq_true (show 1 ≤ v.m by omega), decide_eq_true (show v.m ≤ 1000000000000 by omega), decide_eq_true h.e0, decide_eq_true h.e1, decide_eq_true a1, decide_eq_true (show v.as.length ≤ 24 by omega)]
  rfl
end
end My

set_option maxHeartbeats 4000000
namespace My
open PySem L2 PyProof.Rows DV
/-! ### what is refused -/
theorem lamJ {j : Nat} {P : Addr} {q : Str} {fM : Addr → M D → M D} {db : DX} {Δ : Dn} {s : Sto} (h : s[j]? = some (.tab P q)) : dLamJ j P q fM db Δ s = fM 0 (db Δ) s := by
  unfold dLamJ
  have h' : (show List DO from s)[j]? = some (.tab P q) := h
  rw [h']
  simp
theorem fEq_same {x y : D} {s : Sto} {p : PyData} (hx : toPy s 64 x = some p) (hy : toPy s 64 y = some p) (h : SeqAt.shaped p = true) : fEq x y s = some (.bl true, s) := by
  have e := SeqAt.eqv_refl p (SeqAt.canLay_of_shaped h)
  unfold fEq py2
  rw [hx, hy]
  simp [h, e]
section
variable {A : Ax} {s s1 : Sto}
abbrev ct1 : DS := dAsg (dC .non) (gN 1)
abbrev ct2 (A : Ax) (wk : M D) : DS := dTryK [A.c_BadVoice, A.c_BadTime] 2 1 (dDrop (dWk 0 0 wk))
abbrev ct3 (A : Ax) : DS := dIfS (dTruth (dCB (fIsiX A.c_BadVoice [A.c_BadVoice] [A.c_BadTime]) (dCons (dVar 1) (dCons (dC (.adr A.c_BadVoice)) dNil)))) (dRet (dTup (dCons (dC (.str "voice")) (dCons (dOp1 (fFldX A.c_BadVoice "index") (dVar 1)) dNil)))) dNx
abbrev ct4 (A : Ax) : DX := dIf (dTruth (dCB (fIsiX A.c_BadTime [A.c_BadTime] [A.c_BadVoice]) (dCons (dVar 1) (dCons (dC (.adr A.c_BadTime)) dNil)))) (dTup (dCons (dC (.str "time")) (dCons (dC .non) dNil))) (dTup (dCons (dC (.str "none")) (dCons (dC .non) dNil)))
theorem ds_caught_eq (A : Ax) (wk : M D) : ds_u_law_caught A 0 wk = dSeq ct1 (dSeq (ct2 A wk) (dSeq (ct3 A) (dRet (ct4 A)))) := rfl
theorem try_run {wk : M D} {x : Xc} (h : wk s = some (.error x, s1)) (hx : x.cls ∈ [A.c_BadVoice, A.c_BadTime]) : ct2 A wk [some (.adr 0), some .non, none] s = some (.nx [some (.adr 0), some (.exc x.cls (x.fs.map (·.1)) (x.fs.map (·.2))), none], s1) := by
  have b : dDrop (dWk 0 0 wk) [some (.adr 0), some .non, none] s = some (.ex x [some (.adr 0), some .non, none], s1) := by
    have w : dWk 0 0 wk [some (.adr 0), some .non, none] s = some (.error x, s1) := h
    rw [dDrop_eq, sbind_eq, w]
  unfold ct2 dTryK
  rw [b]
  simp only
  rw [if_pos ⟨hx, by simp, by simp⟩]
  rfl
theorem caught_V {wk : M D} {i : Int} (h : wk s = some (.error (bvX A i), s1)) : M_u_law_caught A 0 wk s = some (.ok (.tup [.str "voice", .int i]), s1) := by
  have hs : startD 3 [D.adr 0] = [some (.adr 0), none, none] := rfl
  have a1 : ct1 [some (.adr 0), none, none] s = some (.nx [some (.adr 0), some .non, none], s) := rfl
  have a2 := try_run (A := A) h (by simp [bvX])
  have v1 : ∀ s : Sto, dVar 1 [some (.adr 0), some (.exc A.c_BadVoice ["index"] [.int i]), none] s = some (.ok (.exc A.c_BadVoice ["index"] [.int i]), s) := fun _ => rfl
  have t3 : dTruth (dCB (fIsiX A.c_BadVoice [A.c_BadVoice] [A.c_BadTime]) (dCons (dVar 1) (dCons (dC (.adr A.c_BadVoice)) dNil))) [some (.adr 0), some (.exc A.c_BadVoice ["index"] [.int i]), none] s1 = some (.ok true, s1) :=
    tr5 (cb5 (cn (v1 s1) (cn (s1 := s1) rfl rfl)) (by simp [fIsiX]))
  have f3 : dOp1 (fFldX A.c_BadVoice "index") (dVar 1) [some (.adr 0), some (.exc A.c_BadVoice ["index"] [.int i]), none] s1 = some (.ok (.int i), s1) := by
    have q : fFldX A.c_BadVoice "index" (.exc A.c_BadVoice ["index"] [.int i]) s1 = some (.int i, s1) := by simp [fFldX]
    rw [dOp1_eq, mbind_ok, v1]
    show lift1 _ _ s1 = _
    simp [lift1, q]
  refine fn_rt ?_
  rw [ds_caught_eq, hs, seq_nx a1, seq_nx a2]
  exact seq_rt (yes5 t3 (tp (cn (s1 := s1) rfl (cn f3 rfl)) (by simp)))
theorem caught_T (hne : A.c_BadTime ≠ A.c_BadVoice) {wk : M D} (h : wk s = some (.error (btX A), s1)) : M_u_law_caught A 0 wk s = some (.ok (.tup [.str "time", .non]), s1) := by
  have hs : startD 3 [D.adr 0] = [some (.adr 0), none, none] := rfl
  have a1 : ct1 [some (.adr 0), none, none] s = some (.nx [some (.adr 0), some .non, none], s) := rfl
  have a2 := try_run (A := A) h (by simp [btX])
  have v1 : ∀ s : Sto, dVar 1 [some (.adr 0), some (.exc A.c_BadTime [] []), none] s = some (.ok (.exc A.c_BadTime [] []), s) := fun _ => rfl
  have t3 : dTruth (dCB (fIsiX A.c_BadVoice [A.c_BadVoice] [A.c_BadTime]) (dCons (dVar 1) (dCons (dC (.adr A.c_BadVoice)) dNil))) [some (.adr 0), some (.exc A.c_BadTime [] []), none] s1 = some (.ok false, s1) :=
    tr5 (cb5 (cn (v1 s1) (cn (s1 := s1) rfl rfl)) (by simp [fIsiX, hne]))
  have t4 : dTruth (dCB (fIsiX A.c_BadTime [A.c_BadTime] [A.c_BadVoice]) (dCons (dVar 1) (dCons (dC (.adr A.c_BadTime)) dNil))) [some (.adr 0), some (.exc A.c_BadTime [] []), none] s1 = some (.ok true, s1) :=
    tr5 (cb5 (cn (v1 s1) (cn (s1 := s1) rfl rfl)) (by simp [fIsiX]))
  have r4 : ct4 A [some (.adr 0), some (.exc A.c_BadTime [] []), none] s1 = some (.ok (.tup [.str "time", .non]), s1) := by
    unfold ct4
    rw [dIf_eq, mbind_ok, t4]
    exact tp (cn (s1 := s1) rfl (cn (s1 := s1) rfl rfl)) (by simp)
  refine fn_rt ?_
  rw [ds_caught_eq, hs, seq_nx a1, seq_nx a2]
  show dSeq (ct3 A) (dRet (ct4 A)) [some (.adr 0), some (.exc A.c_BadTime [] []), none] s1 = _
  rw [seq_nx (no5 t3), dRet_eq, sbind_eq, r4]
theorem isi_lst {n : Nat} {s : Sto} {xs : List D} (h : lstAt s n = some xs) : fIsi [.obj n, .ty "tuple"] s = some (.bl false, s) := by
  have e := lstAt_eq h
  simp [fIsi, kdOf, e, tyNames, Kd.is, Kd.name]
theorem jv_not {x : D} (h : ∀ s1, Gr s s1 → fIsi [x, .ty "tuple"] s1 = some (.bl false, s1)) : JV A s x false := fun s1 g => by
  have hs : startD 6 [x] = [some x, none, none, none, none, none] := rfl
  have t1 : q1t [some x, none, none, none, none, none] s1 = some (.ok true, s1) := ort5 (no_t (b := false) (tr5 (cb5 (s1 := s1) (cn (s1 := s1) rfl (cn (s1 := s1) rfl rfl)) (h s1 g))))
  refine ⟨s1, fn_rt ?_, Gr.refl _⟩
  rw [ds_voice_eq, hs]
  exact seq_rt (yes5 t1 rfl)
theorem jv_two {x y : D} : JV A s (.tup [x, y]) false := fun s1 g => by
  have hs : startD 6 [D.tup [x, y]] = [some (.tup [x, y]), none, none, none, none, none] := rfl
  have l2 : fLen [.tup [x, y]] s1 = some (.int 2, s1) := fLen_tup [x, y] s1 (by simp)
  have t1 : q1t [some (.tup [x, y]), none, none, none, none, none] s1 = some (.ok true, s1) :=
    (or5 (no_t (b := true) (tr5 (cb5 (s1 := s1) (cn (s1 := s1) rfl (cn (s1 := s1) rfl rfl)) (isi_tup _ s1))))).trans (te5 (op5 (s1 := s1) (s2 := s1) (cb5 (s1 := s1) (cn (s1 := s1) rfl rfl) l2) rfl (fNe_int s1 2 3)))
  refine ⟨s1, fn_rt ?_, Gr.refl _⟩
  rw [ds_voice_eq, hs]
  exact seq_rt (yes5 t1 rfl)
theorem jv_lst {p : Nat} {xs : List D} (e : lstAt s p = some xs) : JV A s (.tup [.int 4, .obj p, .int 0]) false := fun s1 g => by
  have hs : startD 6 [D.tup [.int 4, .obj p, .int 0]] = [some (.tup [.int 4, .obj p, .int 0]), none, none, none, none, none] := rfl
  have l3 : fLen [.tup [.int 4, .obj p, .int 0]] s1 = some (.int 3, s1) := fLen_tup [.int 4, .obj p, .int 0] s1 (by simp)
  have t1 : q1t [some (.tup [.int 4, .obj p, .int 0]), none, none, none, none, none] s1 = some (.ok false, s1) :=
    (or5 (no_t (b := true) (tr5 (cb5 (s1 := s1) (cn (s1 := s1) rfl (cn (s1 := s1) rfl rfl)) (isi_tup _ s1))))).trans (te5 (op5 (s1 := s1) (s2 := s1) (cb5 (s1 := s1) (cn (s1 := s1) rfl rfl) l3) rfl (fNe_int s1 3 3)))
  have a2 : q2s [some (.tup [.int 4, .obj p, .int 0]), none, none, none, none, none] s1 = some (.nx [some (.tup [.int 4, .obj p, .int 0]), some (.int 4), some (.obj p), some (.int 0), none, none], s1) := rfl
  have n1 : dCl (argN 1 (M_is_number A)) (dCons (dVar 1) dNil) [some (.tup [.int 4, .obj p, .int 0]), some (.int 4), some (.obj p), some (.int 0), none, none] s1 = some (.ok (.bl true), s1) := (cl5 (xs := [.int 4]) (s1 := s1) (cn (s1 := s1) rfl rfl)).trans ((ag5 rfl).trans (isnum_int A 4 s1))
  have n3 : dCl (argN 1 (M_u_is_entry A)) (dCons (dVar 3) dNil) [some (.tup [.int 4, .obj p, .int 0]), some (.int 4), some (.obj p), some (.int 0), none, none] s1 = some (.ok (.bl true), s1) := (cl5 (xs := [.int 0]) (s1 := s1) (cn (s1 := s1) rfl rfl)).trans ((ag5 rfl).trans (entry_run A s1 0))
  have c1 := (chain_ll (dC (.int 1)) (dVar 1) (dC (.int 1000000000000)) (Δ := [some (.tup [.int 4, .obj p, .int 0]), some (.int 4), some (.obj p), some (.int 0), none, none]) (s := s1) (x := 1) (y := 4) (z := 1000000000000) (fun _ => rfl) (fun _ => rfl) (fun _ => rfl)).1
  have t3 : q3t A [some (.tup [.int 4, .obj p, .int 0]), some (.int 4), some (.obj p), some (.int 0), none, none] s1 = some (.ok false, s1) := (or5 (no_t (b := true) (tr5 n1))).trans ((or5 (no_t (b := true) (te5 c1))).trans (no_t (b := true) (tr5 n3)))
  have t4 : q4t [some (.tup [.int 4, .obj p, .int 0]), some (.int 4), some (.obj p), some (.int 0), none, none] s1 = some (.ok true, s1) := ort5 (no_t (b := false) (tr5 (cb5 (s1 := s1) (cn (s1 := s1) rfl (cn (s1 := s1) rfl rfl)) (isi_lst (g.lst e)))))
  refine ⟨s1, fn_rt ?_, Gr.refl _⟩
  rw [ds_voice_eq, hs, seq_nx (no5 t1), seq_nx a2, seq_nx (no5 t3)]
  exact seq_rt (yes5 t4 rfl)
theorem odd_times {x : D} (h : x ∈ [D.int (-1), .non, .bl true, .str "0", .tup [.int 0]]) : OddT A s x := fun s1 _ => by
  have n1 : M_is_number A [.non] s1 = some (.ok (.bl false), s1) := by simp [M_is_number, ds_is_number, startD, truD]
  have n2 : M_is_number A [.bl true] s1 = some (.ok (.bl false), s1) := by simp [M_is_number, ds_is_number, startD, truD]
  have n3 : M_is_number A [.str "0"] s1 = some (.ok (.bl false), s1) := by simp [M_is_number, ds_is_number, startD, truD]
  have n4 : M_is_number A [.tup [.int 0]] s1 = some (.ok (.bl false), s1) := by simp [M_is_number, ds_is_number, startD, truD]
  have lt : fLt (.int (-1)) (.int 0) s1 = some (.bl true, s1) := rfl
  simp only [List.mem_cons, List.not_mem_nil, or_false] at h
  rcases h with rfl | rfl | rfl | rfl | rfl
  · simp [M_u_check_time, ds_u_check_time, startD, isnum_int, truD, lt, dRaiseC, btX]
  · simp [M_u_check_time, ds_u_check_time, startD, n1, truD, dRaiseC, btX]
  · simp [M_u_check_time, ds_u_check_time, startD, n2, truD, dRaiseC, btX]
  · simp [M_u_check_time, ds_u_check_time, startD, n3, truD, dRaiseC, btX]
  · simp [M_u_check_time, ds_u_check_time, startD, n4, truD, dRaiseC, btX]
end
end My

set_option maxHeartbeats 4000000
namespace My
open PySem L2 PyProof.Rows DV
abbrev RQ : Str := "_law_refused.<locals>.<lambda>"
abbrev LJ (A : Ax) (db : DX) : DX := dLamJ 0 A.pt_u_law_refused "_law_refused.<locals>.<lambda>" (M_u_law_caught A) db
abbrev o1d : DA := (dCons (dC .non) (dCons (dTup (dCons (dC (.int 0)) (dCons (dTup (dCons (dC (.int 0)) dNil)) (dCons (dC (.int 0)) dNil)))) (dCons (dTup (dCons (dC (.int 4)) (dCons (dLst (dCons (dC (.int 1)) dNil)) (dCons (dC (.int 0)) dNil)))) (dCons (dTup (dCons (dC (.int 4)) (dCons (dTup (dCons (dC (.int 4)) dNil)) (dCons (dC (.int 0)) dNil)))) (dCons (dTup (dCons (dC (.int 4)) (dCons (dTup (dCons (dC (.int 1)) (dCons (dC (.int 1)) dNil))) (dCons (dC (.int 0)) dNil)))) (dCons (dTup (dCons (dC (.int 4)) (dCons (dTup (dCons (dC (.int 1)) dNil)) dNil))) (dCons (dC (.str "it")) (dCons (dLst (dCons (dC (.int 4)) (dCons (dTup (dCons (dC (.int 1)) dNil)) (dCons (dC (.int 0)) dNil)))) dNil))))))))
abbrev o2s (A : Ax) : DS := dAsg (dCl (argN 2 (M_u_law_pick A)) (dCons (dVar 0) (dCons (dVar 3) dNil))) (gN 4)
abbrev o3s (A : Ax) : DS := dAsg (dLst (dCons (LJ A (dCl (argN 2 (M_clashes A)) (dCons (dVar 4) (dCons (dVar 4) dNil)))) dNil)) (gN 5)
abbrev apS (A : Ax) (db : DX) : DS := dDrop (dBM "list" fAppend (dVar 5) (dCons (LJ A db) dNil))
abbrev o7s (A : Ax) : DS := dAsg (dCl (argN 2 (M_u_law_pick A)) (dCons (dVar 0) (dCons (dLst (dCons (dOp1 fNeg (dC (.int 1))) (dCons (dC .non) (dCons (dC (.bl true)) (dCons (dC (.str "0")) (dCons (dTup (dCons (dC (.int 0)) dNil)) dNil)))))) dNil))) (gN 6)
abbrev o9x : DX := dOp fEq (dVar 5) (dLst (dCons (dTup (dCons (dC (.str "voice")) (dCons (dC (.int 0)) dNil))) (dCons (dTup (dCons (dC (.str "voice")) (dCons (dC (.int 1)) dNil))) (dCons (dTup (dCons (dC (.str "voice")) (dCons (dC (.int 0)) dNil))) (dCons (dTup (dCons (dC (.str "voice")) (dCons (dC (.int 1)) dNil))) (dCons (dTup (dCons (dC (.str "time")) (dCons (dC .non) dNil))) dNil))))))
theorem ds_ref_eq (A : Ax) : ds_u_law_refused A = dSeq (dAsg (dLst o1d) (gN 3)) (dSeq (o2s A) (dSeq (o3s A) (dSeq (apS A (dCl (argN 2 (M_clashes A)) (dCons (dVar 1) (dCons (dVar 4) dNil)))) (dSeq (apS A (dCl (argN 3 (M_next_clear A)) (dCons (dVar 4) (dCons (dVar 2) (dCons (dOp1 fNeg (dC (.int 1))) dNil))))) (dSeq (apS A (dCl (argN 3 (M_next_clear A)) (dCons (dVar 1) (dCons (dVar 4) (dCons (dOp1 fNeg (dC (.int 1))) dNil))))) (dSeq (o7s A) (dSeq (apS A (dCl (argN 3 (M_next_clear A)) (dCons (dVar 1) (dCons (dVar 2) (dCons (dVar 6) dNil))))) (dRet o9x)))))))) := rfl
/-- values that are no voices -/
inductive OddV (s : Sto) : D → Prop
  | non : OddV s .non
  | str (x : Str) : OddV s (.str x)
  | iv (v : Vo) : voB v = false → v.as.length ≤ 900 → OddV s v.d
  | li (p : Nat) (xs : List D) : lstAt s p = some xs → OddV s (.tup [.int 4, .obj p, .int 0])
  | two (x y : D) : OddV s (.tup [x, y])
  | ob (p : Nat) (xs : List D) : lstAt s p = some xs → OddV s (.obj p)
theorem OddV.jv {A : Ax} {s : Sto} {x : D} (h : OddV s x) : JV A s x false := by
  cases h with
  | non => exact jv_not fun s1 _ => rfl
  | str x => exact jv_not fun s1 _ => rfl
  | iv v h hz =>
    have := jv_ints A s v hz
    rwa [h] at this
  | li p xs e => exact jv_lst e
  | two x y => exact jv_two
  | ob p xs e => exact jv_not fun s1 g => isi_lst (g.lst e)
theorem OddV.sm {s s' : Sto} {st K : Nat} {x : D} (h : OddV s x) (r : Rnd s' st K) (g : Sm st s s') : OddV s' x := by
  have keep : ∀ p xs, lstAt s p = some xs → ∃ ys, lstAt s' p = some ys := fun p xs e => by
    by_cases c : p = st
    · obtain ⟨a, b, c', z, _⟩ := r
      exact ⟨_, by rw [c]; exact z⟩
    · exact ⟨xs, g.lst e c⟩
  cases h with
  | non => exact .non
  | str x => exact .str x
  | iv v h hz => exact .iv v h hz
  | li p xs e =>
    obtain ⟨ys, hy⟩ := keep p xs e
    exact .li p ys hy
  | two x y => exact .two x y
  | ob p xs e =>
    obtain ⟨ys, hy⟩ := keep p xs e
    exact .ob p ys hy
def vD (i : Int) : D := .tup [.str "voice", .int i]
def tD : D := .tup [.str "time", .non]
section
variable {A : Ax} {s : Sto} {st K : Nat}
theorem o1_run (A : Ax) (s : Sto) (Δ : Dn) : ∃ xs s', o1d Δ s = some (.ok xs, s') ∧ Gr s s' ∧ xs.length = 8 ∧ ∀ x ∈ xs, OddV s' x := by
  have t1 : ∀ (a b c : Int) (s : Sto), dTup (dCons (dC (.int a)) (dCons (dTup (dCons (dC (.int b)) dNil)) (dCons (dC (.int c)) dNil))) Δ s = some (.ok (.tup [.int a, .tup [.int b], .int c]), s) := fun a b c s => tp (cn (s1 := s) rfl (cn (tp (cn (s1 := s) rfl rfl) (by simp)) (cn (s1 := s) rfl rfl))) (by simp)
  have t2 : ∀ s : Sto, dTup (dCons (dC (.int 4)) (dCons (dTup (dCons (dC (.int 1)) (dCons (dC (.int 1)) dNil))) (dCons (dC (.int 0)) dNil))) Δ s = some (.ok (.tup [.int 4, .tup [.int 1, .int 1], .int 0]), s) := fun s => tp (cn (s1 := s) rfl (cn (tp (cn (s1 := s) rfl (cn (s1 := s) rfl rfl)) (by simp)) (cn (s1 := s) rfl rfl))) (by simp)
  have t3 : ∀ s : Sto, dTup (dCons (dC (.int 4)) (dCons (dTup (dCons (dC (.int 1)) dNil)) dNil)) Δ s = some (.ok (.tup [.int 4, .tup [.int 1]]), s) := fun s => tp (cn (s1 := s) rfl (cn (tp (cn (s1 := s) rfl rfl) (by simp)) rfl)) (by simp)
  have l1 : dTup (dCons (dC (.int 4)) (dCons (dLst (dCons (dC (.int 1)) dNil)) (dCons (dC (.int 0)) dNil))) Δ s = some (.ok (.tup [.int 4, .obj s.length, .int 0]), s ++ [.lst [.int 1]]) := tp (cn (s1 := s) rfl (cn (ls (s1 := s) (cn (s1 := s) rfl rfl) (by simp)) (cn (s1 := s ++ [.lst [.int 1]]) rfl rfl))) (by simp)
  have e1 : lstAt (s ++ [DO.lst [.int 1]]) s.length = some [.int 1] := lstAt_new
  have g1 : Gr s (s ++ [DO.lst [.int 1]]) := Gr.app
  generalize (s ++ [DO.lst [.int 1]]) = s1 at *
  have l2 : dLst (dCons (dC (.int 4)) (dCons (dTup (dCons (dC (.int 1)) dNil)) (dCons (dC (.int 0)) dNil))) Δ s1 = some (.ok (.obj s1.length), s1 ++ [.lst [.int 4, .tup [.int 1], .int 0]]) := ls (s1 := s1) (cn (s1 := s1) rfl (cn (tp (cn (s1 := s1) rfl rfl) (by simp)) (cn (s1 := s1) rfl rfl))) (by simp)
  have e2 : lstAt (s1 ++ [DO.lst [.int 4, .tup [.int 1], .int 0]]) s1.length = some [.int 4, .tup [.int 1], .int 0] := lstAt_new
  have g2 : Gr s1 (s1 ++ [DO.lst [.int 4, .tup [.int 1], .int 0]]) := Gr.app
  generalize (s1 ++ [DO.lst [.int 4, .tup [.int 1], .int 0]]) = s2 at *
  refine ⟨[.non, .tup [.int 0, .tup [.int 0], .int 0], .tup [.int 4, .obj s.length, .int 0], .tup [.int 4, .tup [.int 4], .int 0], .tup [.int 4, .tup [.int 1, .int 1], .int 0], .tup [.int 4, .tup [.int 1]], .str "it", .obj s1.length], s2, cn (s1 := s) rfl (cn (t1 0 0 0 s) (cn l1 (cn (t1 4 4 0 s1) (cn (t2 s1) (cn (t3 s1) (cn (s1 := s1) rfl (cn l2 rfl))))))), g1.trans g2, rfl, fun x hx => ?_⟩
  simp only [List.mem_cons, List.not_mem_nil, or_false] at hx
  rcases hx with rfl | rfl | rfl | rfl | rfl | rfl | rfl | rfl
  · exact .non
  · exact .iv ⟨0, [0], 0⟩ (by decide) (by simp)
  · exact .li _ _ (g2.lst e1)
  · exact .iv ⟨4, [4], 0⟩ (by decide) (by simp)
  · exact .iv ⟨4, [1, 1], 0⟩ (by decide) (by simp)
  · exact .two _ _
  · exact .str _
  · exact .ob _ _ e2
theorem ap_run {Δ : Dn} {db : DX} {n : Nat} {acc : List D} {y : D} {s1 : Sto} (h5 : Δ[5]? = some (some (.obj n))) (tab : s[0]? = some (.tab A.pt_u_law_refused RQ)) (hc : M_u_law_caught A 0 (db Δ) s = some (.ok y, s1)) (g : Gr s s1) (e : lstAt s n = some acc) (hz : acc.length ≤ 900) :
    apS A db Δ s = some (.nx Δ, s1.set n (.lst (acc ++ [y]))) := by
  have v5 : dVar 5 Δ s = some (.ok (.obj n), s) := by rw [dVar_eq, h5]
  exact app5 v5 e (cn ((lamJ tab).trans hc) rfl) (g.lst e) (Nat.lt_of_lt_of_le (show acc.length < 1000 by omega) (le_line (by decide)))
theorem five_shaped : SeqAt.shaped (.list [.tuple [.str "voice", .int 0], .tuple [.str "voice", .int 1], .tuple [.str "voice", .int 0], .tuple [.str "voice", .int 1], .tuple [.str "time", .none]]) = true := by decide +kernel
theorem five_py {s : Sto} {p : Nat} (e : lstAt s p = some [vD 0, vD 1, vD 0, vD 1, tD]) : toPy s 64 (.obj p) = some (.list [.tuple [.str "voice", .int 0], .tuple [.str "voice", .int 1], .tuple [.str "voice", .int 0], .tuple [.str "voice", .int 1], .tuple [.str "time", .none]]) := by
  show (match lstAt s p with | some xs => (omap (toPy s 63) xs).map PyData.list | none => none) = _
  rw [e]
  rfl
theorem refused_run (hne : A.c_BadTime ≠ A.c_BadVoice) {v w : Vo} (tab : s[0]? = some (.tab A.pt_u_law_refused RQ)) (st0 : st ≠ 0) (h : Rnd s st (K + 2)) (hv : Sv 24 v) (hw : Sv 24 w) :
    ∃ s', M_u_law_refused A [.obj st, v.d, w.d] s = some (.ok (.bl true), s') ∧ Rnd s' st K ∧ Sm st s s' := by
  have hs : startD 7 [.obj st, v.d, w.d] = [some (.obj st), some v.d, some w.d, none, none, none, none] := rfl
  have v1 := hv.voB (by decide)
  have w1 := hw.voB (by decide)
  have zv : v.as.length ≤ 900 := by have := hv.a2; omega
  have zw : w.as.length ≤ 900 := by have := hw.a2; omega
  have zz : v.as.length * w.as.length < 64 := Nat.lt_of_le_of_lt (Nat.mul_le_mul hv.a2 hw.a2) (by decide)
  obtain ⟨xs, s1, a1, g1, l1, j1⟩ := o1_run A s [some (.obj st), some v.d, some w.d, none, none, none, none]
  have b1 : dAsg (dLst o1d) (gN 3) [some (.obj st), some v.d, some w.d, none, none, none, none] s = some (.nx [some (.obj st), some v.d, some w.d, some (.obj s1.length), none, none, none], s1 ++ [.lst xs]) := asg (ls a1 (by omega)) rfl
  have r1 := (h.gr g1).app (l := [.lst xs])
  have lt1 := (h.gr g1).lt
  obtain ⟨d, s2, p1, p2, r2, q2⟩ := pick A (s := s1 ++ [.lst xs]) (n := st) (j := s1.length) (k := K + 1) r1 lstAt_new (by omega) (by omega) (by omega)
  have b2 : o2s A [some (.obj st), some v.d, some w.d, some (.obj s1.length), none, none, none] (s1 ++ [.lst xs]) = some (.nx [some (.obj st), some v.d, some w.d, some (.obj s1.length), some d, none, none], s2) := asg ((cl5 (xs := [.obj st, .obj s1.length]) (s1 := s1 ++ [.lst xs]) (cn (s1 := s1 ++ [.lst xs]) rfl (cn (s1 := s1 ++ [.lst xs]) rfl rfl))).trans ((ag5 rfl).trans p1)) rfl
  have m12 : Sm st s s2 := ((Gr.sm g1).trans Sm.app).trans q2
  have od : OddV s2 d := ((j1 d p2).sm (K := 0) ((h.gr g1).mono (by omega)) (Sm.refl _ _) |>.sm r1 Sm.app).sm r2 q2
  have jv := jv_ints A s2 v zv
  have jw := jv_ints A s2 w zw
  rw [v1] at jv
  rw [w1] at jw
  have jd := od.jv (A := A)
  have tab2 : s2[0]? = some (.tab A.pt_u_law_refused RQ) := m12.at tab st0.symm
  -- the first
  obtain ⟨s3, c3, g3⟩ := (clashes_bad (A := A) jd jd).1 rfl
  have d3 : dCl (argN 2 (M_clashes A)) (dCons (dVar 4) (dCons (dVar 4) dNil)) [some (.obj st), some v.d, some w.d, some (.obj s1.length), some d, none, none] s2 = some (.error (bvX A 0), s3) := (cl5 (xs := [d, d]) (s1 := s2) (cn (s1 := s2) rfl (cn (s1 := s2) rfl rfl))).trans ((ag5 rfl).trans c3)
  have b3 : o3s A [some (.obj st), some v.d, some w.d, some (.obj s1.length), some d, none, none] s2 = some (.nx [some (.obj st), some v.d, some w.d, some (.obj s1.length), some d, some (.obj s3.length), none], s3 ++ [.lst [vD 0]]) := asg (ls (cn ((lamJ tab2).trans (caught_V d3)) rfl) (by simp)) rfl
  have e3 : lstAt (s3 ++ [DO.lst [vD 0]]) s3.length = some [vD 0] := lstAt_new
  have G3 : Gr s2 (s3 ++ [DO.lst [vD 0]]) := g3.trans Gr.app
  have k3 : s2.length ≤ s3.length := g3.len
  generalize (s3 ++ [DO.lst [vD 0]]) = s4 at *
  -- the second
  obtain ⟨s5, c5, g5⟩ := (clashes_bad (A := A) (jv.gr G3) (jd.gr G3)).2 rfl rfl
  have d5 : dCl (argN 2 (M_clashes A)) (dCons (dVar 1) (dCons (dVar 4) dNil)) [some (.obj st), some v.d, some w.d, some (.obj s1.length), some d, some (.obj s3.length), none] s4 = some (.error (bvX A 1), s5) := (cl5 (xs := [v.d, d]) (s1 := s4) (cn (s1 := s4) rfl (cn (s1 := s4) rfl rfl))).trans ((ag5 rfl).trans c5)
  have b5 := ap_run (A := A) (s := s4) (Δ := [some (.obj st), some v.d, some w.d, some (.obj s1.length), some d, some (.obj s3.length), none]) rfl (gr_at G3 tab2) (caught_V d5) g5 e3 (by simp)
  have e5 : lstAt (s5.set s3.length (.lst ([vD 0] ++ [vD 1]))) s3.length = some [vD 0, vD 1] := lstAt_set (g5.lst e3)
  have G5 : Gr s2 (s5.set s3.length (.lst ([vD 0] ++ [vD 1]))) := (G3.trans g5).set k3
  have b5' : apS A (dCl (argN 2 (M_clashes A)) (dCons (dVar 1) (dCons (dVar 4) dNil))) [some (.obj st), some v.d, some w.d, some (.obj s1.length), some d, some (.obj s3.length), none] s4 = some (.nx [some (.obj st), some v.d, some w.d, some (.obj s1.length), some d, some (.obj s3.length), none], s5.set s3.length (.lst ([vD 0] ++ [vD 1]))) := b5
  clear b5
  generalize (s5.set s3.length (.lst ([vD 0] ++ [vD 1]))) = s6 at *
  -- the third
  have ng : ∀ (Δ : Dn) (s : Sto), dOp1 fNeg (dC (.int 1)) Δ s = some (.ok (.int (-1)), s) := fun _ _ => rfl
  obtain ⟨s7, c7, g7⟩ := (next_bad (A := A) (z := .int (-1)) (jd.gr G5) (jw.gr G5)).1 rfl
  have d7 : dCl (argN 3 (M_next_clear A)) (dCons (dVar 4) (dCons (dVar 2) (dCons (dOp1 fNeg (dC (.int 1))) dNil))) [some (.obj st), some v.d, some w.d, some (.obj s1.length), some d, some (.obj s3.length), none] s6 = some (.error (bvX A 0), s7) := (cl5 (xs := [d, w.d, .int (-1)]) (s1 := s6) (cn (s1 := s6) rfl (cn (s1 := s6) rfl (cn (ng _ s6) rfl)))).trans ((ag5 rfl).trans c7)
  have b7 := ap_run (A := A) (s := s6) (Δ := [some (.obj st), some v.d, some w.d, some (.obj s1.length), some d, some (.obj s3.length), none]) rfl (gr_at G5 tab2) (caught_V d7) g7 e5 (by simp)
  have e7 : lstAt (s7.set s3.length (.lst ([vD 0, vD 1] ++ [vD 0]))) s3.length = some [vD 0, vD 1, vD 0] := lstAt_set (g7.lst e5)
  have G7 : Gr s2 (s7.set s3.length (.lst ([vD 0, vD 1] ++ [vD 0]))) := (G5.trans g7).set k3
  have b7' : apS A (dCl (argN 3 (M_next_clear A)) (dCons (dVar 4) (dCons (dVar 2) (dCons (dOp1 fNeg (dC (.int 1))) dNil)))) [some (.obj st), some v.d, some w.d, some (.obj s1.length), some d, some (.obj s3.length), none] s6 = some (.nx [some (.obj st), some v.d, some w.d, some (.obj s1.length), some d, some (.obj s3.length), none], s7.set s3.length (.lst ([vD 0, vD 1] ++ [vD 0]))) := b7
  clear b7
  generalize (s7.set s3.length (.lst ([vD 0, vD 1] ++ [vD 0]))) = s8 at *
  -- the fourth
  obtain ⟨s9, c9, g9⟩ := (next_bad (A := A) (z := .int (-1)) (jv.gr G7) (jd.gr G7)).2 rfl rfl
  have d9 : dCl (argN 3 (M_next_clear A)) (dCons (dVar 1) (dCons (dVar 4) (dCons (dOp1 fNeg (dC (.int 1))) dNil))) [some (.obj st), some v.d, some w.d, some (.obj s1.length), some d, some (.obj s3.length), none] s8 = some (.error (bvX A 1), s9) := (cl5 (xs := [v.d, d, .int (-1)]) (s1 := s8) (cn (s1 := s8) rfl (cn (s1 := s8) rfl (cn (ng _ s8) rfl)))).trans ((ag5 rfl).trans c9)
  have b9 := ap_run (A := A) (s := s8) (Δ := [some (.obj st), some v.d, some w.d, some (.obj s1.length), some d, some (.obj s3.length), none]) rfl (gr_at G7 tab2) (caught_V d9) g9 e7 (by simp)
  have e9 : lstAt (s9.set s3.length (.lst ([vD 0, vD 1, vD 0] ++ [vD 1]))) s3.length = some [vD 0, vD 1, vD 0, vD 1] := lstAt_set (g9.lst e7)
  have G9 : Gr s2 (s9.set s3.length (.lst ([vD 0, vD 1, vD 0] ++ [vD 1]))) := (G7.trans g9).set k3
  have b9' : apS A (dCl (argN 3 (M_next_clear A)) (dCons (dVar 1) (dCons (dVar 4) (dCons (dOp1 fNeg (dC (.int 1))) dNil)))) [some (.obj st), some v.d, some w.d, some (.obj s1.length), some d, some (.obj s3.length), none] s8 = some (.nx [some (.obj st), some v.d, some w.d, some (.obj s1.length), some d, some (.obj s3.length), none], s9.set s3.length (.lst ([vD 0, vD 1, vD 0] ++ [vD 1]))) := b9
  clear b9
  generalize (s9.set s3.length (.lst ([vD 0, vD 1, vD 0] ++ [vD 1]))) = s10 at *
  -- a late one
  have dt : ∀ s : Sto, (dCons (dOp1 fNeg (dC (.int 1))) (dCons (dC .non) (dCons (dC (.bl true)) (dCons (dC (.str "0")) (dCons (dTup (dCons (dC (.int 0)) dNil)) dNil))))) [some (.obj st), some v.d, some w.d, some (.obj s1.length), some d, some (.obj s3.length), none] s = some (.ok [.int (-1), .non, .bl true, .str "0", .tup [.int 0]], s) := fun s => cn (ng _ s) (cn (s1 := s) rfl (cn (s1 := s) rfl (cn (s1 := s) rfl (cn (tp (cn (s1 := s) rfl rfl) (by simp)) rfl))))
  have lt2 := r2.lt
  obtain ⟨y, s11, p11, q11, r11, m11⟩ := pick_gen (A := A) (s := s10) (K := K) (i := 0) (Δ := [some (.obj st), some v.d, some w.d, some (.obj s1.length), some d, some (.obj s3.length), none]) rfl (dt s10) (r2.gr G9) (by simp) (by simp)
  have b11 : o7s A [some (.obj st), some v.d, some w.d, some (.obj s1.length), some d, some (.obj s3.length), none] s10 = some (.nx [some (.obj st), some v.d, some w.d, some (.obj s1.length), some d, some (.obj s3.length), some y], s11) := asg p11 rfl
  have tab11 : s11[0]? = some (.tab A.pt_u_law_refused RQ) := m11.at (gr_at G9 tab2) st0.symm
  have e11 : lstAt s11 s3.length = some [vD 0, vD 1, vD 0, vD 1] := m11.lst e9 (by omega)
  obtain ⟨s12, c12, g12⟩ := next_late (A := A) (s := s11) v1 w1 hv.m1 zz zv zw (odd_times q11)
  have d12 : dCl (argN 3 (M_next_clear A)) (dCons (dVar 1) (dCons (dVar 2) (dCons (dVar 6) dNil))) [some (.obj st), some v.d, some w.d, some (.obj s1.length), some d, some (.obj s3.length), some y] s11 = some (.error (btX A), s12) := (cl5 (xs := [v.d, w.d, y]) (s1 := s11) (cn (s1 := s11) rfl (cn (s1 := s11) rfl (cn (s1 := s11) rfl rfl)))).trans ((ag5 rfl).trans c12)
  have b12 := ap_run (A := A) (s := s11) (Δ := [some (.obj st), some v.d, some w.d, some (.obj s1.length), some d, some (.obj s3.length), some y]) rfl tab11 (caught_T hne d12) g12 e11 (by simp)
  have e12 : lstAt (s12.set s3.length (.lst ([vD 0, vD 1, vD 0, vD 1] ++ [tD]))) s3.length = some [vD 0, vD 1, vD 0, vD 1, tD] := lstAt_set (g12.lst e11)
  have b12' : apS A (dCl (argN 3 (M_next_clear A)) (dCons (dVar 1) (dCons (dVar 2) (dCons (dVar 6) dNil)))) [some (.obj st), some v.d, some w.d, some (.obj s1.length), some d, some (.obj s3.length), some y] s11 = some (.nx [some (.obj st), some v.d, some w.d, some (.obj s1.length), some d, some (.obj s3.length), some y], s12.set s3.length (.lst ([vD 0, vD 1, vD 0, vD 1] ++ [tD]))) := b12
  have M12 : Sm st s (s12.set s3.length (.lst ([vD 0, vD 1, vD 0, vD 1] ++ [tD]))) := by
    have base := ((m12.trans (Gr.sm G9)).trans m11).trans (Gr.sm g12)
    exact base.setN (by have := m12.1; omega)
  have R12 : Rnd (s12.set s3.length (.lst ([vD 0, vD 1, vD 0, vD 1] ++ [tD]))) st K := (r11.gr g12).set (by omega)
  clear b12
  generalize (s12.set s3.length (.lst ([vD 0, vD 1, vD 0, vD 1] ++ [tD]))) = s13 at *
  have vv : ∀ i : Int, dTup (dCons (dC (.str "voice")) (dCons (dC (.int i)) dNil)) [some (.obj st), some v.d, some w.d, some (.obj s1.length), some d, some (.obj s3.length), some y] s13 = some (.ok (vD i), s13) := fun i => tp (cn (s1 := s13) rfl (cn (s1 := s13) rfl rfl)) (by simp)
  have tt : dTup (dCons (dC (.str "time")) (dCons (dC .non) dNil)) [some (.obj st), some v.d, some w.d, some (.obj s1.length), some d, some (.obj s3.length), some y] s13 = some (.ok tD, s13) := tp (cn (s1 := s13) rfl (cn (s1 := s13) rfl rfl)) (by simp)
  have fin : o9x [some (.obj st), some v.d, some w.d, some (.obj s1.length), some d, some (.obj s3.length), some y] s13 = some (.ok (.bl true), s13 ++ [.lst [vD 0, vD 1, vD 0, vD 1, tD]]) :=
    op5 (s1 := s13) (s2 := s13 ++ [.lst [vD 0, vD 1, vD 0, vD 1, tD]]) rfl (ls (s1 := s13) (cn (vv 0) (cn (vv 1) (cn (vv 0) (cn (vv 1) (cn tt rfl))))) (by simp)) (fEq_same (five_py (lstAt_app e12)) (five_py lstAt_new) five_shaped)
  refine ⟨s13 ++ [.lst [vD 0, vD 1, vD 0, vD 1, tD]], fn_rt ?_, R12.app, M12.trans Sm.app⟩
  rw [ds_ref_eq, hs, seq_nx b1, seq_nx b2, seq_nx b3, seq_nx b5', seq_nx b7', seq_nx b9', seq_nx b11, seq_nx b12', dRet_eq, sbind_eq, fin]
end
end My

set_option maxHeartbeats 4000000
namespace My
open PySem L2 PyProof.Rows DV
/-! ### voices of great lengths -/
theorem pw9 (s : Sto) : fPow (.int 10) (.int 9) s = some (.int 1000000000, s) := by
  have h : powOk 10 9 = true := by decide
  unfold fPow
  rw [fI_eq, if_pos h]
  have : (10 : Int) ^ (9 : Int).toNat = 1000000000 := by decide
  rw [this]
theorem pw15 (s : Sto) : fPow (.int 10) (.int 15) s = some (.int 1000000000000000, s) := by
  have h : powOk 10 15 = true := by decide
  unfold fPow
  rw [fI_eq, if_pos h]
  have : (10 : Int) ^ (15 : Int).toNat = 1000000000000000 := by decide
  rw [this]
theorem pw12 (s : Sto) : fPow (.int 10) (.int 12) s = some (.int 1000000000000, s) := by
  have h : powOk 10 12 = true := by decide
  unfold fPow
  rw [fI_eq, if_pos h]
  have : (10 : Int) ^ (12 : Int).toNat = 1000000000000 := by decide
  rw [this]
theorem pw6 (s : Sto) : fPow (.int 10) (.int 6) s = some (.int 1000000, s) := by
  have h : powOk 10 6 = true := by decide
  unfold fPow
  rw [fI_eq, if_pos h]
  have : (10 : Int) ^ (6 : Int).toNat = 1000000 := by decide
  rw [this]
abbrev p1s (A : Ax) : DS := dAsg (dOp fAdd (dC (.int 10)) (drw A 0 (dOp fPow (dC (.int 10)) (dC (.int 9))))) (gN 1)
abbrev p3d (A : Ax) : DA := dCons (dOp fAdd (dC (.int 1)) (drw A 0 (dC (.int 30)))) (dCons (dOp fAdd (dC (.int 31)) (drw A 0 (dC (.int 60)))) dNil)
abbrev p3o (A : Ax) : DX := dSortSet (dCons (dLc [14] (iRange1 (dCons (dOp fAdd (dC (.int 1)) (drw A 0 (dC (.int 3)))) dNil)) (gN 14) dYes (drw A 0 (dOp fMul (dVar 1) (dVar 3)))) dNil)
abbrev p3v (A : Ax) : DX := dTup (dCons (dOp fMul (dVar 1) (dVar 3)) (dCons (dCB fTuple (dCons (dVar 9) dNil)) (dCons (drw A 0 (dOp fPow (dC (.int 10)) (dC (.int 15)))) dNil)))
def p3b (A : Ax) : DS := dSeq (dAsg (p3o A) (gN 9)) (dDrop (dBM "list" fAppend (dVar 2) (dCons (p3v A) dNil)))
abbrev p3s (A : Ax) : DS := dFor (iSeqL (dLst (p3d A))) (gN 3) (p3b A)
abbrev Δg (st : Nat) (F : Nat) (n : Nat) (x3 x9 : Option D) : Dn := [some (.obj st), some (.int (F : Nat)), some (.obj n), x3, none, none, none, none, none, x9, none, none, none, none, none, none]
section
variable {A : Ax} {s : Sto} {st K : Nat}
theorem p3_body {F a n : Nat} {acc : List D} (h : Rnd s st (K + 6)) (F0 : 0 < F) (F1 : F ≤ 1000000010) (a0 : 0 < a) (a1 : a ≤ 90) (e : lstAt s n = some acc) (hn : n ≠ st) (hz : acc.length ≤ 900) (x9 : Option D) :
    ∃ (v : Vo) (y9 : Option D) (s' : Sto), p3b A (Δg st F n (some (.int (a : Nat))) x9) s = some (.nx (Δg st F n (some (.int (a : Nat))) y9), s') ∧ Sv 1000000000000 v ∧ v.m = ((F * a : Nat) : Int) ∧ v.as.length ≤ 3 ∧ lstAt s' n = some (acc ++ [v.d]) ∧ Rnd s' st K ∧ (∀ s0, Sm st s0 s → s0.length ≤ n → Sm st s0 s') ∧ (∀ p xs, p ≠ n → p ≠ st → lstAt s p = some xs → lstAt s' p = some xs) := by
  have Fa : F * a ≤ 1000000010 * 90 := Nat.mul_le_mul F1 a1
  have Fa0 : 0 < F * a := Nat.mul_pos F0 a0
  have mul : ∀ s : Sto, fMul (.int (F : Nat)) (.int (a : Nat)) s = some (.int ((F * a : Nat) : Int), s) := fun s => by rw [mul5 (by omega), Int.natCast_mul]
  obtain ⟨as, s1, b1, b2, b3, b4, b5, r1, q1⟩ := onsets_of (A := A) (K := K + 2) (s := s) (Δ := Δg st F n (some (.int (a : Nat))) x9) (j := 14) (m := F * a) (c := 3) (n := dOp fMul (dVar 1) (dVar 3)) rfl (by decide) (fun d s' => op5 (s1 := s') (s2 := s') rfl rfl (mul s')) (fun d => rfl) (h.mono (by omega)) Fa0 (by omega) (by decide) (by decide)
  have a1' : dAsg (p3o A) (gN 9) (Δg st F n (some (.int (a : Nat))) x9) s = some (.nx (Δg st F n (some (.int (a : Nat))) (some (.obj s1.length))), s1 ++ [.lst (as.map D.int)]) := asg b1 rfl
  have e9 : lstAt (s1 ++ [DO.lst (as.map D.int)]) s1.length = some (as.map D.int) := lstAt_new
  have en : lstAt (s1 ++ [DO.lst (as.map D.int)]) n = some acc := lstAt_app (q1.lst e hn)
  have r2 : Rnd (s1 ++ [DO.lst (as.map D.int)]) st (K + 2) := r1.app
  have q2 : Sm st s (s1 ++ [DO.lst (as.map D.int)]) := q1.trans Sm.app
  generalize (s1 ++ [DO.lst (as.map D.int)]) = s2 at *
  obtain ⟨u, s3, c1, c2, r3, q3⟩ := drw2 (A := A) (K := K + 1) (s := s2) (Δ := Δg st F n (some (.int (a : Nat))) (some (.obj s1.length))) (i := 0) (n := dOp fPow (dC (.int 10)) (dC (.int 15))) (m := 1000000000000000) rfl (op5 (s1 := s2) (s2 := s2) rfl rfl (pw15 s2)) r2 (by decide) (by decide)
  have t9 : dCB fTuple (dCons (dVar 9) dNil) (Δg st F n (some (.int (a : Nat))) (some (.obj s1.length))) s2 = some (.ok (.tup (as.map D.int)), s2) := cb5 (xs := [.obj s1.length]) (s1 := s2) (cn (s1 := s2) rfl rfl) (tuple_obj e9)
  have m1 : dOp fMul (dVar 1) (dVar 3) (Δg st F n (some (.int (a : Nat))) (some (.obj s1.length))) s2 = some (.ok (.int ((F * a : Nat) : Int)), s2) := op5 (s1 := s2) (s2 := s2) rfl rfl (mul s2)
  have vx : p3v A (Δg st F n (some (.int (a : Nat))) (some (.obj s1.length))) s2 = some (.ok (.tup [.int ((F * a : Nat) : Int), .tup (as.map D.int), .int (u : Nat)]), s3) := tp (cn m1 (cn t9 (cn c1 rfl))) (by simp)
  have ap := app5 (i := 2) (n := n) (s := s2) (Δ := Δg st F n (some (.int (a : Nat))) (some (.obj s1.length))) (da := dCons (p3v A) dNil) (y := .tup [.int ((F * a : Nat) : Int), .tup (as.map D.int), .int (u : Nat)]) rfl en (cn vx rfl) (q3.lst en hn) (Nat.lt_of_lt_of_le (show acc.length < 1000 by omega) (le_line (by decide)))
  refine ⟨⟨((F * a : Nat) : Int), as, (u : Nat)⟩, some (.obj s1.length), s3.set n (.lst (acc ++ [.tup [.int ((F * a : Nat) : Int), .tup (as.map D.int), .int (u : Nat)]])), ?_, ⟨by show (0 : Int) < ((F * a : Nat) : Int); omega, by show ((F * a : Nat) : Int) ≤ 1000000000000; omega, b2, by show as.length ≤ 4; omega, b4, b5, by show (0 : Int) ≤ (u : Nat); omega, by show ((u : Nat) : Int) ≤ 1000000000000000; omega⟩, rfl, b3, lstAt_set (q3.lst en hn), (r3.mono (by omega)).set (fun z => hn z.symm), fun s0 g l => ((g.trans q2).trans q3).setN l, fun p xs pn ps ep => by rw [lstAt_ne pn]; exact q3.lst (q2.lst ep ps) ps⟩
  unfold p3b
  rw [seq_nx a1']
  exact ap
theorem p3_run {F n : Nat} (h : Rnd s st (K + 14)) (F0 : 0 < F) (F1 : F ≤ 1000000010) (e : lstAt s n = some []) (hn : n ≠ st) :
    ∃ (a b : Nat) (v w : Vo) (y3 y9 : Option D) (s' : Sto), p3s A (Δg st F n none none) s = some (.nx (Δg st F n y3 y9), s') ∧ 0 < a ∧ 0 < b ∧ Sv 1000000000000 v ∧ Sv 1000000000000 w ∧ v.m = ((F * a : Nat) : Int) ∧ w.m = ((F * b : Nat) : Int) ∧ v.m ≤ 100000000000 ∧ w.m ≤ 100000000000 ∧ v.as.length ≤ 3 ∧ w.as.length ≤ 3 ∧ lstAt s' n = some [v.d, w.d] ∧ Rnd s' st K ∧ (∀ s0, Sm st s0 s → s0.length ≤ n → Sm st s0 s') := by
  obtain ⟨a, s1, a1, a2, r1, q1⟩ := drw2 (A := A) (K := K + 13) (s := s) (Δ := Δg st F n none none) (i := 0) (n := dC (.int (30 : Nat))) (m := 30) rfl rfl h (by decide) (by decide)
  obtain ⟨b, s2, b1, b2, r2, q2⟩ := drw2 (A := A) (K := K + 12) (s := s1) (Δ := Δg st F n none none) (i := 0) (n := dC (.int (60 : Nat))) (m := 60) rfl rfl r1 (by decide) (by decide)
  have dx : p3d A (Δg st F n none none) s = some (.ok [.int ((1 + a : Nat) : Int), .int ((31 + b : Nat) : Int)], s2) := by
    refine cn (op5 (s1 := s) rfl a1 ?_) (cn (op5 (s1 := s1) rfl b1 ?_) rfl)
    · rw [add5, Int.natCast_add]; rfl
    · rw [add5, Int.natCast_add]; rfl
  have lx : dLst (p3d A) (Δg st F n none none) s = some (.ok (.obj s2.length), s2 ++ [.lst [.int ((1 + a : Nat) : Int), .int ((31 + b : Nat) : Int)]]) := ls dx (by simp)
  have lt2 := r2.lt
  have eL : lstAt (s2 ++ [DO.lst [.int ((1 + a : Nat) : Int), .int ((31 + b : Nat) : Int)]]) s2.length = some [.int ((1 + a : Nat) : Int), .int ((31 + b : Nat) : Int)] := lstAt_new
  have en := lstAt_app (l := [DO.lst [.int ((1 + a : Nat) : Int), .int ((31 + b : Nat) : Int)]]) (q2.lst (q1.lst e hn) hn)
  have r3 := r2.app (l := [DO.lst [.int ((1 + a : Nat) : Int), .int ((31 + b : Nat) : Int)]])
  have nl : n < s2.length := by
    have := lstAt_lt (q2.lst (q1.lst e hn) hn)
    exact this
  have q3 : Sm st s (s2 ++ [DO.lst [.int ((1 + a : Nat) : Int), .int ((31 + b : Nat) : Int)]]) := (q1.trans q2).trans Sm.app
  have hi : iSeqL (dLst (p3d A)) (Δg st F n none none) s = some (.ok ⟨[.int ((1 + a : Nat) : Int), .int ((31 + b : Nat) : Int)], some (s2.length, [.int ((1 + a : Nat) : Int), .int ((31 + b : Nat) : Int)])⟩, s2 ++ [.lst [.int ((1 + a : Nat) : Int), .int ((31 + b : Nat) : Int)]]) := by
    rw [iSeqL_eq, mbind_ok, lx]
    simp only [eL]
  generalize (s2 ++ [DO.lst [.int ((1 + a : Nat) : Int), .int ((31 + b : Nat) : Int)]]) = s3 at *
  obtain ⟨v, y9, s4, c1, c2, c3, c4, c5, r4, q4, k4⟩ := p3_body (A := A) (K := K + 6) (s := s3) (F := F) (a := 1 + a) (n := n) (acc := []) (r3.mono (by omega)) F0 F1 (by omega) (by omega) en hn (by simp) none
  obtain ⟨w, z9, s5, d1, d2, d3, d4, d5, r5, q5, k5⟩ := p3_body (A := A) (K := K) (s := s4) (F := F) (a := 31 + b) (n := n) (acc := [v.d]) (r4.mono (by omega)) F0 F1 (by omega) (by omega) c5 hn (by simp) y9
  have ge : ∀ (i : Int) (x3 x9 : Option D) (s : Sto), gN 3 (.int i) (Δg st F n x3 x9) s = some (Δg st F n (some (.int i)) x9, s) := fun _ _ _ _ => rfl
  have eL4 := k4 _ _ (by omega) (by omega) eL
  have eL5 := k5 _ _ (by omega) (by omega) eL4
  have t3 : Itd.still ⟨[.int ((1 + a : Nat) : Int), .int ((31 + b : Nat) : Int)], some (s2.length, [.int ((1 + a : Nat) : Int), .int ((31 + b : Nat) : Int)])⟩ s3 = true := still_of eL
  have t4 : Itd.still ⟨[.int ((1 + a : Nat) : Int), .int ((31 + b : Nat) : Int)], some (s2.length, [.int ((1 + a : Nat) : Int), .int ((31 + b : Nat) : Int)])⟩ s4 = true := still_of eL4
  have t5 : Itd.still ⟨[.int ((1 + a : Nat) : Int), .int ((31 + b : Nat) : Int)], some (s2.length, [.int ((1 + a : Nat) : Int), .int ((31 + b : Nat) : Int)])⟩ s5 = true := still_of eL5
  have lp : forRun ⟨[.int ((1 + a : Nat) : Int), .int ((31 + b : Nat) : Int)], some (s2.length, [.int ((1 + a : Nat) : Int), .int ((31 + b : Nat) : Int)])⟩ (gN 3) (p3b A) [.int ((1 + a : Nat) : Int), .int ((31 + b : Nat) : Int)] (Δg st F n none none) s3 = some (.nx (Δg st F n (some (.int ((31 + b : Nat) : Int))) z9), s5) := by
    rw [forRun.eq_def]
    simp only [t3, if_true, ge, c1]
    rw [forRun.eq_def]
    simp only [t4, if_true, ge, d1]
    rw [forRun.eq_def]
    simp only [t5, if_true]
  have B1 : F * (1 + a) ≤ 1000000010 * 90 := Nat.mul_le_mul F1 (by omega)
  have B2 : F * (31 + b) ≤ 1000000010 * 90 := Nat.mul_le_mul F1 (by omega)
  exact ⟨1 + a, 31 + b, v, w, _, _, s5, for_of hi lp, by omega, by omega, c2, d2, c3, d3, by rw [c3]; omega, by rw [d3]; omega, c4, d4, d5, r5, fun s0 g l => q5 s0 (q4 s0 (g.trans q3) l) l⟩
end
end My

set_option maxHeartbeats 4000000
namespace My
open PySem L2 PyProof.Rows DV
abbrev g4s (A : Ax) : DS := dAsg (dCl (argN 2 (M_clashes A)) (dCons (dOp fIx (dVar 2) (dC (.int 0))) (dCons (dOp fIx (dVar 2) (dC (.int 1))) dNil))) (gTp 2 (gsCons (gN 10) (gsCons (gN 11) gsNil)))
abbrev g5t (A : Ax) : DT := dTest (dOp fNe (dVar 10) (dCl (argN 2 (M_u_law_gcd A)) (dCons (dOp fIx (dOp fIx (dVar 2) (dC (.int 0))) (dC (.int 0))) (dCons (dOp fIx (dOp fIx (dVar 2) (dC (.int 1))) (dC (.int 0))) dNil))))
abbrev g7e : DX := dOp fSub (dOp fSub (dOp fAdd (dOp fIx (dOp fIx (dVar 2) (dC (.int 0))) (dC (.int 2))) (dVar 5)) (dOp fIx (dOp fIx (dVar 2) (dC (.int 1))) (dC (.int 2)))) (dVar 13)
abbrev g7x : DX := dLc [13] (iSeqT (dOp fIx (dOp fIx (dVar 2) (dC (.int 1))) (dC (.int 1)))) (gN 13) dYes g7e
def g7b : DS := dAsg (dOp fAdd (dVar 4) g7x) (gN 4)
abbrev g7s : DS := dFor (iSeqT (dOp fIx (dOp fIx (dVar 2) (dC (.int 0))) (dC (.int 1)))) (gN 5) g7b
abbrev g8x : DX := dLc [15] (iSeqL (dVar 4)) (gN 15) dYes (dOp fMod (dCB fInt (dCons (dVar 15) dNil)) (dVar 10))
abbrev g8t : DT := dTest (dOp fNe (dVar 11) (dCB fTuple (dCons (dSortSet (dCons g8x dNil)) dNil)))
abbrev g9d (A : Ax) : DA := dCons (dOp fIx (dVar 11) (dC (.int 0))) (dCons (dOp fAdd (dOp fIx (dVar 11) (dOp1 fNeg (dC (.int 1)))) (dOp fMul (dVar 10) (dOp fPow (dC (.int 10)) (dC (.int 6))))) (dCons (drw A 0 (dOp fPow (dC (.int 10)) (dC (.int 12)))) dNil))
abbrev g9s (A : Ax) : DS := dAsg (dCl (argN 2 (M_u_law_pick A)) (dCons (dVar 0) (dCons (dLst (g9d A)) dNil))) (gN 6)
abbrev g10s (A : Ax) : DS := dAsg (dCl (argN 3 (M_next_clear A)) (dCons (dOp fIx (dVar 2) (dC (.int 0))) (dCons (dOp fIx (dVar 2) (dC (.int 1))) (dCons (dVar 6) dNil)))) (gN 7)
abbrev g11t : DT := dTest (dOp fNotIn (dOp fMod (dCB fInt (dCons (dVar 12) dNil)) (dVar 10)) (dVar 11))
abbrev g11s : DS := dAsg (dLc [12] (iRange2 (dCons (dVar 6) (dCons (dVar 7) dNil))) (gN 12) g11t (dVar 12)) (gN 8)
abbrev g12x : DX := dAndT (dOp fGe (dVar 7) (dVar 6)) (dAndT (dOp fNotIn (dOp fMod (dCB fInt (dCons (dVar 7) dNil)) (dVar 10)) (dVar 11)) (dOp fEq (dVar 8) (dLst dNil)))
theorem ds_great_eq (A : Ax) : ds_u_law_great_right A = dSeq (p1s A) (dSeq (dAsg (dLst dNil) (gN 2)) (dSeq (p3s A) (dSeq (g4s A) (dSeq (noS (g5t A)) (dSeq (dAsg (dLst dNil) (gN 4)) (dSeq g7s (dSeq (noS g8t) (dSeq (g9s A) (dSeq (g10s A) (dSeq g11s (dRet g12x))))))))))) := rfl
section
variable {A : Ax} {s : Sto} {st K n : Nat} {v w : Vo} {Δ : Dn}
theorem rd0 (h2 : Δ[2]? = some (some (.obj n))) (e : lstAt s n = some [v.d, w.d]) : dOp fIx (dVar 2) (dC (.int 0)) Δ s = some (.ok v.d, s) := by
  have v2 : dVar 2 Δ s = some (.ok (.obj n), s) := by rw [dVar_eq, h2]
  exact op5 v2 rfl (by rw [fIx_obj, e]; rfl)
theorem rd1 (h2 : Δ[2]? = some (some (.obj n))) (e : lstAt s n = some [v.d, w.d]) : dOp fIx (dVar 2) (dC (.int 1)) Δ s = some (.ok w.d, s) := by
  have v2 : dVar 2 Δ s = some (.ok (.obj n), s) := by rw [dVar_eq, h2]
  exact op5 v2 rfl (by rw [fIx_obj, e]; rfl)
abbrev Δk (x0 x1 : Option D) (n : Nat) (x3 x4 x5 x6 x7 x8 x9 : Option D) (g : Int) (C : List Int) (x12 x13 x14 x15 : Option D) : Dn := [x0, x1, some (.obj n), x3, x4, x5, x6, x7, x8, x9, some (.int g), some (.tup (C.map D.int)), x12, x13, x14, x15]
theorem g7_body (x0 x1 x3 x6 x7 x8 x9 x12 x13 x14 x15 : Option D) {g a : Int} {C acc : List Int} {q : Nat} (e : lstAt s n = some [v.d, w.d]) (eq_ : lstAt s q = some (acc.map D.int)) (hz : acc.length + w.as.length ≤ 900) :
    ∃ s', g7b (Δk x0 x1 n x3 (some (.obj q)) (some (.int a)) x6 x7 x8 x9 g C x12 x13 x14 x15) s = some (.nx (Δk x0 x1 n x3 (some (.obj s'.length)) (some (.int a)) x6 x7 x8 x9 g C x12 x13 x14 x15), s' ++ [.lst ((acc ++ w.as.map fun b => v.e + a - w.e - b).map D.int)]) ∧ Gr s s' := by
  have hi : iSeqT (dOp fIx (dOp fIx (dVar 2) (dC (.int 1))) (dC (.int 1))) (Δk x0 x1 n x3 (some (.obj q)) (some (.int a)) x6 x7 x8 x9 g C x12 x13 x14 x15) s = some (.ok ⟨w.as.map D.int, none⟩, s) := by
    have r : dOp fIx (dOp fIx (dVar 2) (dC (.int 1))) (dC (.int 1)) (Δk x0 x1 n x3 (some (.obj q)) (some (.int a)) x6 x7 x8 x9 g C x12 x13 x14 x15) s = some (.ok (.tup (w.as.map D.int)), s) := op5 (rd1 rfl e) rfl ix3_1
    unfold iSeqT
    rw [mbind_ok, r]
  obtain ⟨s1, yss, e1, e2, e3, e4⟩ := lc_pure (I := ⟨w.as.map D.int, none⟩) (g := gN 13) (tt := dYes) (de := g7e) (Δ := Δk x0 x1 n x3 (some (.obj q)) (some (.int a)) x6 x7 x8 x9 g C x12 none x14 x15) (s := s) (fun d ys => ∀ b : Int, d = D.int b → ys = [.int (v.e + a - w.e - b)]) (fun s' g => rfl) (fun d s1 hd g1 => by
    obtain ⟨b, hb, rfl⟩ := List.mem_map.mp hd
    have en := g1.lst e
    have ev : g7e (Δk x0 x1 n x3 (some (.obj q)) (some (.int a)) x6 x7 x8 x9 g C x12 (some (.int b)) x14 x15) s1 = some (.ok (.int (v.e + a - w.e - b)), s1) :=
      op5 (op5 (op5 (op5 (rd0 (v := v) (w := w) rfl en) rfl ix3_2) rfl add5) (op5 (rd1 (v := v) (w := w) rfl en) rfl ix3_2) sub5) rfl sub5
    exact ⟨_, rfl, .inr ⟨s1, _, s1, rfl, ev, Gr.refl _, fun c hc => by cases hc; rfl⟩⟩) (le_line (by show (w.as.map D.int).length ≤ 1000; rw [List.length_map]; omega))
  have e5 : yss = w.as.map fun b => [D.int (v.e + a - w.e - b)] := All2.map_of (g := D.int) e3 fun b hb y q => q b rfl
  rw [e5, flat_one] at e2
  have c1 : g7x (Δk x0 x1 n x3 (some (.obj q)) (some (.int a)) x6 x7 x8 x9 g C x12 x13 x14 x15) s = some (.ok (.obj s.length), s1) := lc_of hi e1
  have ad := addL (e4.lst eq_) e2 (by rw [List.length_map, List.length_map]; omega)
  have em : acc.map D.int ++ (w.as.map fun b => D.int (v.e + a - w.e - b)) = (acc ++ w.as.map fun b => v.e + a - w.e - b).map D.int := by
    rw [List.map_append, List.map_map]
    rfl
  rw [em] at ad
  exact ⟨s1, asg (op5 (s1 := s) rfl c1 ad) rfl, e4⟩
theorem g7_run (x0 x1 x3 x5 x6 x7 x8 x9 x12 x13 x14 x15 : Option D) {g : Int} {C : List Int} {q : Nat} (e : lstAt s n = some [v.d, w.d]) (eq_ : lstAt s q = some []) (hz : v.as.length * w.as.length ≤ 900) (hw : w.as.length ≤ 100) :
    ∃ y5 p s', g7s (Δk x0 x1 n x3 (some (.obj q)) x5 x6 x7 x8 x9 g C x12 x13 x14 x15) s = some (.nx (Δk x0 x1 n x3 (some (.obj p)) y5 x6 x7 x8 x9 g C x12 x13 x14 x15), s') ∧ Gr s s' ∧ lstAt s' p = some ((v.as.flatMap fun a => w.as.map fun b => v.e + a - w.e - b).map D.int) := by
  have hi : iSeqT (dOp fIx (dOp fIx (dVar 2) (dC (.int 0))) (dC (.int 1))) (Δk x0 x1 n x3 (some (.obj q)) x5 x6 x7 x8 x9 g C x12 x13 x14 x15) s = some (.ok ⟨v.as.map D.int, none⟩, s) := by
    have r : dOp fIx (dOp fIx (dVar 2) (dC (.int 0))) (dC (.int 1)) (Δk x0 x1 n x3 (some (.obj q)) x5 x6 x7 x8 x9 g C x12 x13 x14 x15) s = some (.ok (.tup (v.as.map D.int)), s) := op5 (rd0 rfl e) rfl ix3_1
    unfold iSeqT
    rw [mbind_ok, r]
  have loop : ∀ (r dn : List Int) (x5 : Option D) (q : Nat) (s1 : Sto), v.as = dn ++ r → Gr s s1 → lstAt s1 q = some ((dn.flatMap fun a => w.as.map fun b => v.e + a - w.e - b).map D.int) →
      ∃ y5 p s', forRun ⟨v.as.map D.int, none⟩ (gN 5) g7b (r.map D.int) (Δk x0 x1 n x3 (some (.obj q)) x5 x6 x7 x8 x9 g C x12 x13 x14 x15) s1 = some (.nx (Δk x0 x1 n x3 (some (.obj p)) y5 x6 x7 x8 x9 g C x12 x13 x14 x15), s') ∧ Gr s s' ∧ lstAt s' p = some ((v.as.flatMap fun a => w.as.map fun b => v.e + a - w.e - b).map D.int) := by
    intro r
    induction r with
    | nil =>
      intro dn x5 q s1 hd G eq1
      rw [List.append_nil] at hd
      exact ⟨x5, q, s1, rfl, G, by rw [hd]; exact eq1⟩
    | cons a r ih =>
      intro dn x5 q s1 hd G eq1
      have ln : (dn.flatMap fun a => w.as.map fun b => v.e + a - w.e - b).length = dn.length * w.as.length := fm_len (fun a b => v.e + a - w.e - b) w.as dn
      have lv : dn.length + 1 ≤ v.as.length := by rw [hd]; simp
      have lm : (dn.length + 1) * w.as.length ≤ v.as.length * w.as.length := Nat.mul_le_mul_right _ lv
      rw [Nat.succ_mul] at lm
      obtain ⟨s2, b1, b2⟩ := g7_body (s := s1) (v := v) (w := w) (a := a) (g := g) (C := C) x0 x1 x3 x6 x7 x8 x9 x12 x13 x14 x15 (G.lst e) eq1 (by omega)
      have en : lstAt (s2 ++ [DO.lst (((dn.flatMap fun a => w.as.map fun b => v.e + a - w.e - b) ++ w.as.map fun b => v.e + a - w.e - b).map D.int)]) s2.length = some (((dn ++ [a]).flatMap fun a => w.as.map fun b => v.e + a - w.e - b).map D.int) := by
        rw [List.flatMap_append]
        simpa using lstAt_new
      obtain ⟨y5, p, s', c1, c2, c3⟩ := ih (dn ++ [a]) (some (.int a)) s2.length _ (by rw [hd]; simp) ((G.trans b2).trans Gr.app) en
      have hg : gN 5 (.int a) (Δk x0 x1 n x3 (some (.obj q)) x5 x6 x7 x8 x9 g C x12 x13 x14 x15) s1 = some (Δk x0 x1 n x3 (some (.obj q)) (some (.int a)) x6 x7 x8 x9 g C x12 x13 x14 x15, s1) := rfl
      have st : Itd.still ⟨v.as.map D.int, none⟩ s1 = true := rfl
      refine ⟨y5, p, s', ?_, c2, c3⟩
      rw [List.map_cons, forRun.eq_def]
      simp only [st, if_true, hg, b1]
      exact c1
  obtain ⟨y5, p, s', c1, c2, c3⟩ := loop v.as [] x5 q s rfl (Gr.refl s) eq_
  exact ⟨y5, p, s', for_of hi c1, c2, c3⟩
end
end My

set_option maxHeartbeats 4000000
namespace My
open PySem L2 PyProof.Rows DV
theorem range2W {da : DA} {Δ : Dn} {s s1 : Sto} {i j : Int} (h : da Δ s = some (.ok [.int i, .int j], s1)) (hi : 0 ≤ i ∧ i < 2 ^ 61) (hj : 0 ≤ j ∧ j < 2 ^ 61) : iRange2 da Δ s = some (.ok (rngI i (j - i).toNat), s1) := by
  have r1 : rngOk i = true := by
    unfold rngOk
    rw [decide_eq_true (by omega), decide_eq_true (by omega)]
    rfl
  have r2 : rngOk j = true := by
    unfold rngOk
    rw [decide_eq_true (by omega), decide_eq_true (by omega)]
    rfl
  rw [iRange2_eq, mbind_ok, h]
  simp only [r1, r2, Bool.and_self, if_true]
theorem at_ints {l : List Int} {s : Sto} (h : 0 < l.length) : (∃ x ∈ l, fIx (.tup (l.map D.int)) (.int 0) s = some (.int x, s)) ∧ (∃ x ∈ l, fIx (.tup (l.map D.int)) (.int (-1)) s = some (.int x, s)) := by
  have e : ∀ i : Int, fIx (.tup (l.map D.int)) (.int i) s = (match atI (l.map D.int) i with | some d => some (d, s) | none => none) := fun i => rfl
  have g : ∀ j : Nat, j < l.length → (l.map D.int)[j]? = some (.int (l.getD j 0)) ∧ l.getD j 0 ∈ l := fun j hj => by
    have q : l[j]? = some l[j] := List.getElem?_eq_getElem hj
    refine ⟨by rw [List.getElem?_map, q, List.getD_eq_getElem?_getD, q]; rfl, ?_⟩
    rw [List.getD_eq_getElem?_getD, q]
    exact List.getElem_mem hj
  constructor
  · refine ⟨l.getD 0 0, (g 0 h).2, ?_⟩
    rw [e]
    have : atI (l.map D.int) 0 = some (.int (l.getD 0 0)) := by
      unfold atI ixN
      rw [List.length_map, if_pos (by omega), if_pos (by omega)]
      exact (g 0 h).1
    rw [this]
  · refine ⟨l.getD (l.length - 1) 0, (g (l.length - 1) (by omega)).2, ?_⟩
    rw [e]
    have : atI (l.map D.int) (-1) = some (.int (l.getD (l.length - 1) 0)) := by
      unfold atI ixN
      rw [List.length_map, if_neg (by omega), if_pos (by omega)]
      have z : (-1 + ((l.length : Nat) : Int)).toNat = l.length - 1 := by omega
      rw [z]
      exact (g (l.length - 1) (by omega)).1
    rw [this]
section
variable {A : Ax} {s : Sto} {st K n : Nat} {v w : Vo}
theorem g8_run (x0 x1 x3 x5 x6 x7 x8 x9 x12 x13 x14 x15 : Option D) {g : Int} {C l : List Int} {p : Nat} (g0 : 0 < g) (e : lstAt s p = some (l.map D.int)) (hz : l.length < 64) (hC : C = usort (l.map (· % g))) :
    ∃ s', g8t (Δk x0 x1 n x3 (some (.obj p)) x5 x6 x7 x8 x9 g C x12 x13 x14 x15) s = some (.ok false, s') ∧ Gr s s' := by
  have hi : iSeqL (dVar 4) (Δk x0 x1 n x3 (some (.obj p)) x5 x6 x7 x8 x9 g C x12 x13 x14 x15) s = some (.ok ⟨l.map D.int, some (p, l.map D.int)⟩, s) := by simp [e]
  obtain ⟨s1, yss, e1, e2, e3, e4⟩ := lc_pure (I := ⟨l.map D.int, some (p, l.map D.int)⟩) (g := gN 15) (tt := dYes) (de := dOp fMod (dCB fInt (dCons (dVar 15) dNil)) (dVar 10)) (Δ := Δk x0 x1 n x3 (some (.obj p)) x5 x6 x7 x8 x9 g C x12 x13 x14 none) (s := s) (fun d ys => ∀ b : Int, d = D.int b → ys = [.int (b % g)]) (fun s' g => still_of (g.lst e)) (fun d s1 hd g1 => by
    obtain ⟨b, hb, rfl⟩ := List.mem_map.mp hd
    have ev : dOp fMod (dCB fInt (dCons (dVar 15) dNil)) (dVar 10) (Δk x0 x1 n x3 (some (.obj p)) x5 x6 x7 x8 x9 g C x12 x13 x14 (some (.int b))) s1 = some (.ok (.int (b % g)), s1) := op5 (s1 := s1) (s2 := s1) (cb5 (s1 := s1) (cn (s1 := s1) rfl rfl) (fInt_int _ _)) rfl (mod5 g0)
    exact ⟨_, rfl, .inr ⟨s1, _, s1, rfl, ev, Gr.refl _, fun c hc => by cases hc; rfl⟩⟩) (le_line (by show (l.map D.int).length ≤ 1000; rw [List.length_map]; omega))
  have e5 : yss = l.map fun b => [D.int (b % g)] := All2.map_of (g := D.int) e3 fun b hb y q => q b rfl
  rw [e5, flat_one] at e2
  have e6 : lstAt s1 s.length = some ((l.map (· % g)).map D.int) := by rw [e2, List.map_map]; rfl
  have c1 : g8x (Δk x0 x1 n x3 (some (.obj p)) x5 x6 x7 x8 x9 g C x12 x13 x14 x15) s = some (.ok (.obj s.length), s1) := lc_of hi e1
  have c2 : dSortSet (dCons g8x dNil) (Δk x0 x1 n x3 (some (.obj p)) x5 x6 x7 x8 x9 g C x12 x13 x14 x15) s = some (.ok (.obj s1.length), s1 ++ [.lst ((usort (l.map (· % g))).map D.int)]) := sortSet5 (cn c1 rfl) e6 (by rw [List.length_map]; exact hz)
  rw [← hC] at c2
  have c3 : dCB fTuple (dCons (dSortSet (dCons g8x dNil)) dNil) (Δk x0 x1 n x3 (some (.obj p)) x5 x6 x7 x8 x9 g C x12 x13 x14 x15) s = some (.ok (.tup (C.map D.int)), s1 ++ [.lst (C.map D.int)]) := cb5 (cn c2 rfl) (tuple_obj lstAt_new)
  exact ⟨_, te5 (op5 (s1 := s) rfl c3 (fNe_same (py_tup _ C) (py_tup _ C) (shp_tup C))), e4.trans Gr.app⟩
theorem g11_run (x0 x1 x3 x4 x5 x8 x9 x12 x13 x14 x15 : Option D) {g b x : Int} {C : List Int} (g0 : 0 < g) (hf : First C g b x) (hb : 0 ≤ b ∧ b < 2 ^ 60) (hx : x ≤ b + 40) :
    ∃ s', g11s (Δk x0 x1 n x3 x4 x5 (some (.int b)) (some (.int x)) x8 x9 g C x12 x13 x14 x15) s = some (.nx (Δk x0 x1 n x3 x4 x5 (some (.int b)) (some (.int x)) (some (.obj s.length)) x9 g C x12 x13 x14 x15), s') ∧ Gr s s' ∧ lstAt s' s.length = some [] := by
  obtain ⟨f1, f2, f3⟩ := hf
  have hi : iRange2 (dCons (dVar 6) (dCons (dVar 7) dNil)) (Δk x0 x1 n x3 x4 x5 (some (.int b)) (some (.int x)) x8 x9 g C x12 x13 x14 x15) s = some (.ok (rngI b (x - b).toNat), s) := range2W (cn (s1 := s) rfl (cn (s1 := s) rfl rfl)) (by omega) (by omega)
  obtain ⟨s1, yss, e1, e2, e3, e4⟩ := lc_pure (I := rngI b (x - b).toNat) (g := gN 12) (tt := g11t) (de := dVar 12) (Δ := Δk x0 x1 n x3 x4 x5 (some (.int b)) (some (.int x)) x8 x9 g C none x13 x14 x15) (s := s) (fun d ys => ys = []) (fun s' g => rfl) (fun d s1 hd g1 => by
    rw [rgI_its] at hd
    obtain ⟨y, hy, rfl⟩ := List.mem_map.mp hd
    rw [rgI_mem] at hy
    have c := f3 y hy.1 (by omega)
    have t : g11t (Δk x0 x1 n x3 x4 x5 (some (.int b)) (some (.int x)) x8 x9 g C (some (.int y)) x13 x14 x15) s1 = some (.ok (!decide (y % g ∈ C)), s1) := te5 (op5 (s1 := s1) (s2 := s1) (op5 (s1 := s1) (s2 := s1) (cb5 (s1 := s1) (cn (s1 := s1) rfl rfl) (fInt_int _ _)) rfl (mod5 g0)) rfl (fIn_ints (y % g) C s1).2)
    rw [decide_eq_true c] at t
    exact ⟨_, rfl, .inl ⟨s1, t, Gr.refl _, rfl⟩⟩) (le_line (by rw [rng_len']; omega))
  have nil : ∀ {r : List D} {yss : List (List D)}, All2 (fun (_ : D) ys => ys = []) r yss → yss.flatten = [] := by
    intro r yss h
    induction h with
    | nil => rfl
    | cons h _ ih => rw [List.flatten_cons, h, ih]; rfl
  rw [nil e3] at e2
  exact ⟨s1, asg (lc_of hi e1) rfl, e4, e2⟩
theorem great_run (h : Rnd s st (K + 17)) : ∃ s', M_u_law_great_right A [.obj st] s = some (.ok (.bl true), s') ∧ Rnd s' st K ∧ Sm st s s' := by
  have hs : startD 16 [.obj st] = [some (.obj st), none, none, none, none, none, none, none, none, none, none, none, none, none, none, none] := rfl
  obtain ⟨f, s1, a1, a2, r1, q1⟩ := drw2 (A := A) (K := K + 16) (s := s) (Δ := [some (.obj st), none, none, none, none, none, none, none, none, none, none, none, none, none, none, none]) (i := 0) (n := dOp fPow (dC (.int 10)) (dC (.int 9))) (m := 1000000000) rfl (op5 (s1 := s) (s2 := s) rfl rfl (pw9 s)) h (by decide) (by decide)
  have b1 : p1s A [some (.obj st), none, none, none, none, none, none, none, none, none, none, none, none, none, none, none] s = some (.nx [some (.obj st), some (.int ((10 + f : Nat) : Int)), none, none, none, none, none, none, none, none, none, none, none, none, none, none], s1) := by
    refine asg (op5 (s1 := s) rfl a1 ?_) rfl
    rw [add5, Int.natCast_add]
    rfl
  have lt1 := r1.lt
  have b2 : dAsg (dLst dNil) (gN 2) [some (.obj st), some (.int ((10 + f : Nat) : Int)), none, none, none, none, none, none, none, none, none, none, none, none, none, none] s1 = some (.nx (Δg st (10 + f) s1.length none none), s1 ++ [.lst []]) := asg (ls (s1 := s1) rfl (by simp)) rfl
  obtain ⟨a, b, v, w, y3, y9, s2, c1, a0, b0, sv, sw, mv, mw, lv, lw, zv, zw, e2, r2, q2⟩ := p3_run (A := A) (s := s1 ++ [.lst []]) (K := K + 2) (F := 10 + f) (n := s1.length) r1.app (by omega) (by omega) lstAt_new (by omega)
  have Q2 : Sm st s s2 := q1.trans (q2 s1 Sm.app (Nat.le_refl _))
  have v1 := sv.voB (by decide)
  have w1 := sw.voB (by decide)
  have m1 := sv.m1
  have n1 := sw.m1
  have g0 := gI_pos w.m m1
  have gle := gI_le w.m m1
  have zz : v.as.length * w.as.length ≤ 3 * 3 := Nat.mul_le_mul zv zw
  obtain ⟨s3, k1, g3⟩ := clashes_ok (A := A) (s := s2) v1 w1 m1 (by omega) (by omega) (by omega)
  have b4 : g4s A (Δg st (10 + f) s1.length y3 y9) s2 = some (.nx (Δk (some (.obj st)) (some (.int ((10 + f : Nat) : Int))) s1.length y3 none none none none none y9 (gI v.m w.m) (v.cl w) none none none none), s3) := asg ((cl5 (xs := [v.d, w.d]) (s1 := s2) (cn (rd0 rfl e2) (cn (rd1 rfl e2) rfl))).trans ((ag5 rfl).trans k1)) rfl
  have e3 := g3.lst e2
  have lg : dCl (argN 2 (M_u_law_gcd A)) (dCons (dOp fIx (dOp fIx (dVar 2) (dC (.int 0))) (dC (.int 0))) (dCons (dOp fIx (dOp fIx (dVar 2) (dC (.int 1))) (dC (.int 0))) dNil)) (Δk (some (.obj st)) (some (.int ((10 + f : Nat) : Int))) s1.length y3 none none none none none y9 (gI v.m w.m) (v.cl w) none none none none) s3 = some (.ok (.int (gI v.m w.m)), s3) := (cl5 (xs := [.int v.m, .int w.m]) (s1 := s3) (cn (op5 (rd0 rfl e3) rfl ix3_0) (cn (op5 (rd1 rfl e3) rfl ix3_0) rfl))).trans ((ag5 rfl).trans (lgcd A s3 (by omega) (by omega) (by omega)))
  have t5 : g5t A (Δk (some (.obj st)) (some (.int ((10 + f : Nat) : Int))) s1.length y3 none none none none none y9 (gI v.m w.m) (v.cl w) none none none none) s3 = some (.ok false, s3) := by
    have q := te5 (op5 (s1 := s3) (a := dVar 10) (x := .int (gI v.m w.m)) rfl lg (fNe_int s3 (gI v.m w.m) (gI v.m w.m)))
    have z : (!(gI v.m w.m == gI v.m w.m)) = false := by simp
    rw [z] at q
    exact q
  have b6 : dAsg (dLst dNil) (gN 4) (Δk (some (.obj st)) (some (.int ((10 + f : Nat) : Int))) s1.length y3 none none none none none y9 (gI v.m w.m) (v.cl w) none none none none) s3 = some (.nx (Δk (some (.obj st)) (some (.int ((10 + f : Nat) : Int))) s1.length y3 (some (.obj s3.length)) none none none none y9 (gI v.m w.m) (v.cl w) none none none none), s3 ++ [.lst []]) := asg (ls (s1 := s3) rfl (by simp)) rfl
  obtain ⟨y5, p, s4, b7, g4, e4⟩ := g7_run (s := s3 ++ [.lst []]) (v := v) (w := w) (n := s1.length) (some (.obj st)) (some (.int ((10 + f : Nat) : Int))) y3 none none none none y9 none none none none (g := gI v.m w.m) (C := v.cl w) (q := s3.length) (lstAt_app e3) lstAt_new (by omega) (by omega)
  have eC : v.cl w = usort ((v.as.flatMap fun a => w.as.map fun b => v.e + a - w.e - b).map (· % gI v.m w.m)) := by
    show usort _ = usort _
    congr 1
    rw [List.map_flatMap]
    congr 1
    funext a
    rw [List.map_map]
    congr 1
    funext b
    show (v.e - w.e + a - b) % gI v.m w.m = (v.e + a - w.e - b) % gI v.m w.m
    congr 1
    omega
  have lG : (v.as.flatMap fun a => w.as.map fun b => v.e + a - w.e - b).length < 64 := by
    rw [fm_len (fun a b => v.e + a - w.e - b) w.as v.as]
    omega
  obtain ⟨s5, t8, g5⟩ := g8_run (s := s4) (n := s1.length) (some (.obj st)) (some (.int ((10 + f : Nat) : Int))) y3 y5 none none none y9 none none none none (g := gI v.m w.m) (C := v.cl w) g0 e4 lG eC
  have G25 : Gr s2 s5 := ((g3.trans Gr.app).trans g4).trans g5
  have e5 := G25.lst e2
  -- where to begin
  obtain ⟨cf1, cf2⟩ := Vo.cl_facts (v := v) (w := w) m1
  have cf3 := cl_len (v := v) (w := w)
  have ne : 0 < (v.cl w).length := by
    obtain ⟨a', ha⟩ : ∃ a, a ∈ v.as := List.exists_mem_of_length_pos (by have := sv.a1; omega)
    obtain ⟨b', hb⟩ : ∃ b, b ∈ w.as := List.exists_mem_of_length_pos (by have := sw.a1; omega)
    have : (v.e - w.e + a' - b') % gI v.m w.m ∈ v.cl w := clash_mem.mpr ⟨a', ha, b', hb, rfl⟩
    exact List.length_pos_of_mem this
  obtain ⟨⟨u1, hu1, i1⟩, ⟨u2, hu2, i2⟩⟩ := at_ints (l := v.cl w) (s := s5) ne
  obtain ⟨z, s6, d1, d2, r6, q6⟩ := drw2 (A := A) (K := K + 1) (s := s5) (Δ := Δk (some (.obj st)) (some (.int ((10 + f : Nat) : Int))) s1.length y3 (some (.obj p)) y5 none none none y9 (gI v.m w.m) (v.cl w) none none none none) (i := 0) (n := dOp fPow (dC (.int 10)) (dC (.int 12))) (m := 1000000000000) rfl (op5 (s1 := s5) (s2 := s5) rfl rfl (pw12 s5)) (r2.gr G25) (by decide) (by decide)
  have ng : dOp1 fNeg (dC (.int 1)) (Δk (some (.obj st)) (some (.int ((10 + f : Nat) : Int))) s1.length y3 (some (.obj p)) y5 none none none y9 (gI v.m w.m) (v.cl w) none none none none) s5 = some (.ok (.int (-1)), s5) := rfl
  have dx : g9d A (Δk (some (.obj st)) (some (.int ((10 + f : Nat) : Int))) s1.length y3 (some (.obj p)) y5 none none none y9 (gI v.m w.m) (v.cl w) none none none none) s5 = some (.ok [.int u1, .int (u2 + gI v.m w.m * 1000000), .int (z : Nat)], s6) :=
    cn (op5 (s1 := s5) (s2 := s5) rfl rfl i1) (cn (op5 (s1 := s5) (s2 := s5) (op5 (s1 := s5) (s2 := s5) rfl ng i2) (op5 (s1 := s5) (s2 := s5) rfl (op5 (s1 := s5) (s2 := s5) rfl rfl (pw6 s5)) (mul5 (by omega))) add5) (cn d1 rfl))
  obtain ⟨d, s7, p7, q7, r7, m7⟩ := pick_gen (A := A) (s := s5) (K := K) (i := 0) (Δ := Δk (some (.obj st)) (some (.int ((10 + f : Nat) : Int))) s1.length y3 (some (.obj p)) y5 none none none y9 (gI v.m w.m) (v.cl w) none none none none) rfl dx r6 (by simp) (by simp)
  obtain ⟨bh, hbh, rfl⟩ : ∃ bh : Int, (0 ≤ bh ∧ bh < 2 ^ 60) ∧ d = .int bh := by
    have h1 := cf2 u1 hu1
    have h2 := cf2 u2 hu2
    simp only [List.mem_cons, List.not_mem_nil, or_false] at q7
    rcases q7 with rfl | rfl | rfl
    · exact ⟨u1, by omega, rfl⟩
    · exact ⟨_, by omega, rfl⟩
    · exact ⟨_, by omega, rfl⟩
  have b9 : g9s A (Δk (some (.obj st)) (some (.int ((10 + f : Nat) : Int))) s1.length y3 (some (.obj p)) y5 none none none y9 (gI v.m w.m) (v.cl w) none none none none) s5 = some (.nx (Δk (some (.obj st)) (some (.int ((10 + f : Nat) : Int))) s1.length y3 (some (.obj p)) y5 (some (.int bh)) none none y9 (gI v.m w.m) (v.cl w) none none none none), s7) := asg p7 rfl
  have e7 : lstAt s7 s1.length = some [v.d, w.d] := m7.lst (q6.lst e5 (by omega)) (by omega)
  -- the next free time
  obtain ⟨r, s8, k8, g8, hr⟩ := next_ok (A := A) (s := s7) v1 w1 m1 (by omega) (by omega) (by omega) hbh.1
  have few : ((v.cl w).length : Int) < gI v.m w.m := by
    have : ((10 + f : Nat) : Int) ≤ gI v.m w.m := by
      unfold gI
      rw [mv, mw]
      have e : Nat.gcd (((10 + f) * a : Nat) : Int).natAbs (((10 + f) * b : Nat) : Int).natAbs = (10 + f) * Nat.gcd a b := by
        rw [Int.natAbs_natCast, Int.natAbs_natCast, Nat.gcd_mul_left]
      rw [e]
      have : 0 < Nat.gcd a b := Nat.gcd_pos_of_pos_left _ a0
      have := Nat.mul_le_mul_left (10 + f) (show 1 ≤ Nat.gcd a b by omega)
      omega
    omega
  obtain ⟨x, rfl, hf, hx⟩ : ∃ x, r = .int x ∧ First (v.cl w) (gI v.m w.m) bh x ∧ x ≤ bh + 40 := by
    rcases hr with ⟨h1, _⟩ | ⟨_, h2⟩
    · omega
    · exact h2
  have b10 : g10s A (Δk (some (.obj st)) (some (.int ((10 + f : Nat) : Int))) s1.length y3 (some (.obj p)) y5 (some (.int bh)) none none y9 (gI v.m w.m) (v.cl w) none none none none) s7 = some (.nx (Δk (some (.obj st)) (some (.int ((10 + f : Nat) : Int))) s1.length y3 (some (.obj p)) y5 (some (.int bh)) (some (.int x)) none y9 (gI v.m w.m) (v.cl w) none none none none), s8) := asg ((cl5 (xs := [v.d, w.d, .int bh]) (s1 := s7) (cn (rd0 rfl e7) (cn (rd1 rfl e7) (cn (s1 := s7) rfl rfl)))).trans ((ag5 rfl).trans k8)) rfl
  obtain ⟨s9, b11, g9, e9⟩ := g11_run (s := s8) (n := s1.length) (some (.obj st)) (some (.int ((10 + f : Nat) : Int))) y3 (some (.obj p)) y5 none y9 none none none none (g := gI v.m w.m) (C := v.cl w) g0 hf hbh hx
  have c12 : dOp fGe (dVar 7) (dVar 6) (Δk (some (.obj st)) (some (.int ((10 + f : Nat) : Int))) s1.length y3 (some (.obj p)) y5 (some (.int bh)) (some (.int x)) (some (.obj s8.length)) y9 (gI v.m w.m) (v.cl w) none none none none) s9 = some (.ok (.bl true), s9) := by
    have q : fGe (.int x) (.int bh) s9 = some (.bl (decide (bh ≤ x)), s9) := rfl
    rw [decide_eq_true hf.1] at q
    exact op5 (s1 := s9) (s2 := s9) rfl rfl q
  have c13 : dOp fNotIn (dOp fMod (dCB fInt (dCons (dVar 7) dNil)) (dVar 10)) (dVar 11) (Δk (some (.obj st)) (some (.int ((10 + f : Nat) : Int))) s1.length y3 (some (.obj p)) y5 (some (.int bh)) (some (.int x)) (some (.obj s8.length)) y9 (gI v.m w.m) (v.cl w) none none none none) s9 = some (.ok (.bl true), s9) := by
    have q := (fIn_ints (x % gI v.m w.m) (v.cl w) s9).2
    rw [decide_eq_false hf.2.1] at q
    exact op5 (s1 := s9) (s2 := s9) (op5 (s1 := s9) (s2 := s9) (cb5 (s1 := s9) (cn (s1 := s9) rfl rfl) (fInt_int _ _)) rfl (mod5 g0)) rfl q
  have c14 : dOp fEq (dVar 8) (dLst dNil) (Δk (some (.obj st)) (some (.int ((10 + f : Nat) : Int))) s1.length y3 (some (.obj p)) y5 (some (.int bh)) (some (.int x)) (some (.obj s8.length)) y9 (gI v.m w.m) (v.cl w) none none none none) s9 = some (.ok (.bl true), s9 ++ [.lst []]) := by
    have q := fEq_ints (s := s9 ++ [.lst []]) (p := s8.length) (q := s9.length) (l := []) (m := []) (lstAt_app e9) lstAt_new
    exact op5 (s1 := s9) (s2 := s9 ++ [.lst []]) rfl (ls (xs := []) (s1 := s9) rfl (by simp)) q
  have fin : g12x (Δk (some (.obj st)) (some (.int ((10 + f : Nat) : Int))) s1.length y3 (some (.obj p)) y5 (some (.int bh)) (some (.int x)) (some (.obj s8.length)) y9 (gI v.m w.m) (v.cl w) none none none none) s9 = some (.ok (.bl true), s9 ++ [.lst []]) := and5 c12 (and5 c13 c14)
  refine ⟨s9 ++ [.lst []], fn_rt ?_, ((r7.gr g8).gr g9).app, (((((Q2.trans (Gr.sm G25)).trans q6).trans m7).trans (Gr.sm g8)).trans (Gr.sm g9)).trans Sm.app⟩
  rw [ds_great_eq, hs, seq_nx b1, seq_nx b2, seq_nx c1, seq_nx b4, seq_nx (no5 t5), seq_nx b6, seq_nx b7, seq_nx (no5 t8), seq_nx b9, seq_nx b10, seq_nx b11, dRet_eq, sbind_eq, fin]
end
end My

set_option maxHeartbeats 4000000
namespace My
open PySem L2 PyProof.Rows DV
/-! ### what is due -/
theorem rgI_up (lo : Int) (n : Nat) : (rgI lo n).Pairwise (· < ·) := by
  unfold rgI
  rw [List.pairwise_map]
  exact List.pairwise_lt_range.imp fun z => by omega
def Vo.g (v w : Vo) : Int := gI v.m w.m
def meetB (v w : Vo) (k : Int) : Bool := decide (k % gI v.m w.m ∈ v.cl w)
theorem due_eq {v w : Vo} (m1 : 0 < v.m) : (rgI 0 (gI v.m w.m).toNat).filter (meetB v w) = v.cl w := by
  have g0 := gI_pos w.m m1
  refine usort_one ((rgI_up 0 _).filter _) fun k => ?_
  rw [List.mem_filter, rgI_mem]
  unfold meetB
  rw [decide_eq_true_iff]
  have cm : k ∈ v.cl w ↔ k ∈ (v.as.flatMap fun a => w.as.map fun b => (v.e - w.e + a - b) % gI v.m w.m) := usort_mem _ k
  rw [← cm]
  constructor
  · rintro ⟨⟨h1, h2⟩, h3⟩
    have : k % gI v.m w.m = k := Int.emod_eq_of_lt h1 (by omega)
    rwa [this] at h3
  · intro h
    obtain ⟨h1, h2⟩ := clash_in m1 h
    have : k % gI v.m w.m = k := Int.emod_eq_of_lt h1 h2
    exact ⟨⟨h1, by omega⟩, by rw [this]; exact h⟩
theorem free_none {v w : Vo} (m1 : 0 < v.m) {b : Int} (h : ((v.cl w).length : Int) = gI v.m w.m) : (rgI b (gI v.m w.m).toNat).filter (fun k => !meetB v w k) = [] := by
  have g0 := gI_pos w.m m1
  obtain ⟨f1, f2⟩ := Vo.cl_facts (v := v) (w := w) m1
  rw [List.filter_eq_nil_iff]
  intro k _ hk
  have : k % gI v.m w.m ∈ v.cl w := found_all f1 f2 h (Int.emod_nonneg _ (by omega)) (Int.emod_lt_of_pos _ g0)
  unfold meetB at hk
  rw [decide_eq_true this] at hk
  cases hk
theorem free_head {v w : Vo} (m1 : 0 < v.m) {b x : Int} (h : ((v.cl w).length : Int) < gI v.m w.m) (hf : First (v.cl w) (gI v.m w.m) b x) : ∃ r, (rgI b (gI v.m w.m).toNat).filter (fun k => !meetB v w k) = x :: r := by
  have g0 := gI_pos w.m m1
  obtain ⟨f1, f2⟩ := Vo.cl_facts (v := v) (w := w) m1
  obtain ⟨h1, h2, h3⟩ := hf
  obtain ⟨i, i1, i2⟩ := found_free f1 h b
  have xi : x ≤ b + i := by
    apply Classical.byContradiction
    intro c
    exact i2 (h3 (b + i) (by omega) (by omega))
  have fr : ∀ k, k ∈ (rgI b (gI v.m w.m).toNat).filter (fun k => !meetB v w k) ↔ (b ≤ k ∧ k < b + (gI v.m w.m).toNat) ∧ k % gI v.m w.m ∉ v.cl w := fun k => by
    rw [List.mem_filter, rgI_mem]
    unfold meetB
    rw [Bool.not_eq_true', decide_eq_false_iff_not]
  have up := (rgI_up b (gI v.m w.m).toNat).filter (fun k => !meetB v w k)
  have hx := (fr x).mpr ⟨⟨h1, by omega⟩, h2⟩
  cases hL : (rgI b (gI v.m w.m).toNat).filter (fun k => !meetB v w k) with
  | nil => rw [hL] at hx; cases hx
  | cons y r =>
    have hy := (fr y).mp (by rw [hL]; simp)
    have : y = x := by
      rw [hL] at hx up
      rcases List.mem_cons.mp hx with e | e
      · exact e.symm
      · have l := (List.pairwise_cons.mp up).1 x e
        exact absurd (h3 y hy.1.1 l) hy.2
    rw [this]
    exact ⟨r, rfl⟩
theorem pair_py (s : Sto) (g : Int) (l : List Int) : toPy s 64 (.tup [.int g, .tup (l.map D.int)]) = some (.tuple [.int g, .tuple (l.map PyData.int)]) := by
  have h : toPy s 63 (.tup (l.map D.int)) = some (.tuple (l.map PyData.int)) := by
    have q : ∀ l : List Int, omap (toPy s 62) (l.map D.int) = some (l.map PyData.int) := by
      intro l
      induction l with
      | nil => rfl
      | cons i l ih =>
        have q : toPy s 62 (.int i) = some (.int i) := rfl
        simp [omap, q, ih]
    show (omap (toPy s 62) (l.map D.int)).map PyData.tuple = _
    rw [q l]
    rfl
  have h0 : toPy s 63 (.int g) = some (.int g) := rfl
  show (omap (toPy s 63) [.int g, .tup (l.map D.int)]).map PyData.tuple = _
  simp [omap, h, h0]
theorem pair_shp (g : Int) (l : List Int) : SeqAt.shaped (.tuple [.int g, .tuple (l.map PyData.int)]) = true := by
  have d := dep_ints l
  have h0 : PyData.canLay0 (.int g) = true := rfl
  have dg : (PyData.int g).depth = 0 := by simp [PyData.depth]
  unfold SeqAt.shaped
  rw [decide_eq_true (show (PyData.tuple _).depth ≤ 64 by simp [PyData.depth, PyData.depthAll]; omega)]
  simp [PyData.canLay0, PyData.canLayAll0, lay_ints l, h0]
theorem flat_if (p : Int → Bool) : ∀ l : List Int, (l.map fun a => if p a = true then [D.int a] else []).flatten = (l.filter p).map D.int := map_ite p
section
variable {A : Ax} {s : Sto} {st K : Nat} {v w : Vo}
/-- the waits, among n from lo on, at which they meet, or don't -/
theorem waits_run (hv : Sv 24 v) (hw : Sv 24 w) (ev : v.e ≤ 60) (ew : w.e ≤ 60) {lo : Int} {n : Nat} (l0 : 0 ≤ lo) (l1 : lo + n ≤ 900) {I : Itd} (hI : I = rngI lo n) {j : Nat} {tt : DT} {Δ : Dn} (pos : Bool)
    (ht : ∀ (k : Int) (s1 s2 : Sto) (b : Bool), M_u_law_meet A [v.d, w.d, .int k] s1 = some (.ok (.bl b), s2) → tt (Δ.set j (some (.int k))) s1 = some (.ok (if pos = true then b else !b), s2)) (hj : j < Δ.length) :
    ∃ s', lcRun I (gN j) tt (dVar j) s.length I.its Δ (s ++ [.lst []]) = some s' ∧ Gr s s' ∧ lstAt s' s.length = some (((rgI lo n).filter fun k => if pos = true then meetB v w k else !meetB v w k).map D.int) := by
  subst hI
  obtain ⟨s', yss, e1, e2, e3, e4⟩ := lc_pure (I := rngI lo n) (g := gN j) (tt := tt) (de := dVar j) (Δ := Δ) (s := s) (fun d ys => ∀ k : Int, d = D.int k → ys = if (if pos = true then meetB v w k else !meetB v w k) = true then [D.int k] else []) (fun s' g => rfl) (fun d s1 hd g1 => by
    rw [rgI_its] at hd
    obtain ⟨k, hk, rfl⟩ := List.mem_map.mp hd
    rw [rgI_mem] at hk
    obtain ⟨s2, m1, m2⟩ := meet_run (A := A) (s := s1) hv hw ev ew (k := k) (by omega) (by omega)
    have t := ht k s1 s2 _ m1
    refine ⟨Δ.set j (some (.int k)), rfl, ?_⟩
    cases c : (if pos = true then meetB v w k else !meetB v w k) with
    | true =>
      have t2 : tt (Δ.set j (some (.int k))) s1 = some (.ok true, s2) := by rw [← c]; exact t
      have dv : dVar j (Δ.set j (some (.int k))) s2 = some (.ok (.int k), s2) := by rw [dVar_eq, List.getElem?_set_self hj]
      exact .inr ⟨s2, .int k, s2, t2, dv, m2, fun a ha => by cases ha; rw [if_pos c]⟩
    | false =>
      have t2 : tt (Δ.set j (some (.int k))) s1 = some (.ok false, s2) := by rw [← c]; exact t
      exact .inl ⟨s2, t2, m2, fun a ha => by cases ha; rw [if_neg (by rw [c]; simp)]⟩) (le_line (by rw [rng_len']; omega))
  rw [rgI_its] at e3
  have e5 : yss = (rgI lo n).map fun k => if (if pos = true then meetB v w k else !meetB v w k) = true then [D.int k] else [] := All2.map_of (g := D.int) e3 fun a ha y q => q a rfl
  rw [e5, flat_if] at e2
  exact ⟨s', e1, e4, e2⟩
end
end My

set_option maxHeartbeats 4000000
namespace My
open PySem L2 PyProof.Rows DV
/-! ### a lap -/
abbrev l1s (A : Ax) : DS := dAsg (drw A 3 (dC (.int 50))) (gN 10)
abbrev l2t (A : Ax) : DT := dNot (dTruth (dCl (argN 3 (M_u_law_meet A)) (dCons (dVar 8) (dCons (dVar 9) (dCons (dVar 14) dNil)))))
abbrev l2s (A : Ax) : DS := dAsg (dLc [14] (iRange2 (dCons (dVar 10) (dCons (dOp fAdd (dVar 10) (dVar 5)) dNil))) (gN 14) (l2t A) (dVar 14)) (gN 11)
abbrev l3s : DS := dAsg (dIf (dTest (dOp fNe (dVar 11) (dLst dNil))) (dOp fIx (dVar 11) (dC (.int 0))) (dC .non)) (gN 12)
abbrev l4t (A : Ax) : DT := dOr (dTest (dOp fNe (dCl (argN 3 (M_next_clear A)) (dCons (dVar 8) (dCons (dVar 9) (dCons (dVar 10) dNil)))) (dVar 12))) (dTest (dOp fNe (dClK 0 3 [2, 1, 0] (M_next_clear A) dNil (dCons (dVar 10) (dCons (dVar 9) (dCons (dVar 8) dNil)))) (dVar 12)))
abbrev lapB (A : Ax) : DS := dSeq (l1s A) (dSeq (l2s A) (dSeq l3s (noS (l4t A))))
abbrev Δl (x0 x1 x2 : Option D) (st : Nat) (x4 : Option D) (g : Int) (x6 x7 : Option D) (v w : Vo) (x10 x11 x12 x13 x14 : Option D) : Dn := [x0, x1, x2, some (.obj st), x4, some (.int g), x6, x7, some v.d, some w.d, x10, x11, x12, x13, x14]
section
variable {A : Ax} {s : Sto} {st K : Nat} {v w : Vo}
theorem ne_same (r : D) (h : r = .non ∨ ∃ x, r = .int x) (s : Sto) : fNe r r s = some (.bl false, s) := by
  rcases h with rfl | ⟨x, rfl⟩
  · rfl
  · rw [fNe_int]
    exact bl_same (by simp)
theorem lap_run (hv : Sv 24 v) (hw : Sv 24 w) (ev : v.e ≤ 60) (ew : w.e ≤ 60) (h : Rnd s st (K + 1)) (x0 x1 x2 x4 x6 x7 x10 x11 x12 x13 x14 : Option D) :
    ∃ y10 y11 y12 s', lapB A (Δl x0 x1 x2 st x4 (gI v.m w.m) x6 x7 v w x10 x11 x12 x13 x14) s = some (.nx (Δl x0 x1 x2 st x4 (gI v.m w.m) x6 x7 v w y10 y11 y12 x13 x14), s') ∧ Rnd s' st K ∧ Sm st s s' := by
  have m1 := hv.m1
  have g0 := gI_pos w.m m1
  have gle := gI_le w.m m1
  have m2 := hv.m2
  have zz : v.as.length * w.as.length ≤ 4 * 4 := Nat.mul_le_mul hv.a2 hw.a2
  have zv : v.as.length ≤ 900 := by have := hv.a2; omega
  have zw : w.as.length ≤ 900 := by have := hw.a2; omega
  obtain ⟨b, s1, d1, d2, r1, q1⟩ := drw2 (A := A) (K := K) (s := s) (Δ := Δl x0 x1 x2 st x4 (gI v.m w.m) x6 x7 v w x10 x11 x12 x13 x14) (i := 3) (n := dC (.int (50 : Nat))) (m := 50) rfl rfl h (by decide) (by decide)
  have a1 : l1s A (Δl x0 x1 x2 st x4 (gI v.m w.m) x6 x7 v w x10 x11 x12 x13 x14) s = some (.nx (Δl x0 x1 x2 st x4 (gI v.m w.m) x6 x7 v w (some (.int (b : Nat))) x11 x12 x13 x14), s1) := asg d1 rfl
  have hi : iRange2 (dCons (dVar 10) (dCons (dOp fAdd (dVar 10) (dVar 5)) dNil)) (Δl x0 x1 x2 st x4 (gI v.m w.m) x6 x7 v w (some (.int (b : Nat))) x11 x12 x13 x14) s1 = some (.ok (rngI (b : Nat) ((b : Nat) + gI v.m w.m - (b : Nat)).toNat), s1) := range2 (cn (s1 := s1) rfl (cn (op5 (s1 := s1) (s2 := s1) rfl rfl add5) rfl)) (by omega) (by omega)
  have eg : (((b : Nat) : Int) + gI v.m w.m - ((b : Nat) : Int)).toNat = (gI v.m w.m).toNat := by
    rw [show ((b : Nat) : Int) + gI v.m w.m - ((b : Nat) : Int) = gI v.m w.m by omega]
  rw [eg] at hi
  obtain ⟨s2, w1, w2, w3⟩ := waits_run (A := A) (s := s1) hv hw ev ew (lo := (b : Nat)) (n := (gI v.m w.m).toNat) (by omega) (by omega) rfl (j := 14) (tt := l2t A) (Δ := Δl x0 x1 x2 st x4 (gI v.m w.m) x6 x7 v w (some (.int (b : Nat))) x11 x12 x13 none) false (fun k s1 s2 c hm => no_t (tr5 ((cl5 (xs := [v.d, w.d, .int k]) (s1 := s1) (cn (s1 := s1) rfl (cn (s1 := s1) rfl (cn (s1 := s1) rfl rfl)))).trans ((ag5 rfl).trans hm)))) (by simp)
  have w3' : lstAt s2 s1.length = some (((rgI (b : Nat) (gI v.m w.m).toNat).filter (fun k => !meetB v w k)).map D.int) := w3
  have a2 : l2s A (Δl x0 x1 x2 st x4 (gI v.m w.m) x6 x7 v w (some (.int (b : Nat))) x11 x12 x13 x14) s1 = some (.nx (Δl x0 x1 x2 st x4 (gI v.m w.m) x6 x7 v w (some (.int (b : Nat))) (some (.obj s1.length)) x12 x13 x14), s2) := asg (lc_of hi w1) rfl
  have ne := fNe_ints (s := s2 ++ [.lst []]) (p := s1.length) (q := s2.length) (m := []) (lstAt_app w3') lstAt_new
  have tn : dTest (dOp fNe (dVar 11) (dLst dNil)) (Δl x0 x1 x2 st x4 (gI v.m w.m) x6 x7 v w (some (.int (b : Nat))) (some (.obj s1.length)) x12 x13 x14) s2 = some (.ok (!decide ((rgI (b : Nat) (gI v.m w.m).toNat).filter (fun k => !meetB v w k) = [])), s2 ++ [.lst []]) := te5 (op5 (s1 := s2) (s2 := s2 ++ [.lst []]) rfl (ls (xs := []) (s1 := s2) rfl (by simp)) ne)
  have G3 : Gr s1 (s2 ++ [.lst []]) := w2.trans Gr.app
  have e3 : lstAt (s2 ++ [DO.lst []]) s1.length = some (((rgI (b : Nat) (gI v.m w.m).toNat).filter (fun k => !meetB v w k)).map D.int) := lstAt_app w3'
  generalize (s2 ++ [DO.lst []]) = s3 at *
  have v1 := hv.voB (by decide)
  have w1' := hw.voB (by decide)
  obtain ⟨r, s4, n1, n2, n3⟩ := next_ok (A := A) (s := s3) v1 w1' m1 (by omega) zv zw (d := (b : Nat)) (by omega)
  obtain ⟨r', s5, k1, k2, k3⟩ := next_ok (A := A) (s := s4) v1 w1' m1 (by omega) zv zw (d := (b : Nat)) (by omega)
  have rr : r' = r := by
    rcases n3 with ⟨h1, rfl⟩ | ⟨h1, x, rfl, hx, _⟩ <;> rcases k3 with ⟨h2, rfl⟩ | ⟨h2, y, rfl, hy, _⟩
    · rfl
    · omega
    · omega
    · rw [hx.one hy]
  subst rr
  have a3 : l3s (Δl x0 x1 x2 st x4 (gI v.m w.m) x6 x7 v w (some (.int (b : Nat))) (some (.obj s1.length)) x12 x13 x14) s2 = some (.nx (Δl x0 x1 x2 st x4 (gI v.m w.m) x6 x7 v w (some (.int (b : Nat))) (some (.obj s1.length)) (some r') x13 x14), s3) := by
    refine asg (s1 := s3) (d := r') ?_ rfl
    rcases n3 with ⟨h1, rfl⟩ | ⟨h1, x, rfl, hx, _⟩
    · rw [free_none m1 h1] at tn
      have tn' : dTest (dOp fNe (dVar 11) (dLst dNil)) (Δl x0 x1 x2 st x4 (gI v.m w.m) x6 x7 v w (some (.int (b : Nat))) (some (.obj s1.length)) x12 x13 x14) s2 = some (.ok false, s3) := tn
      rw [dIf_eq, mbind_ok, tn']
      rfl
    · obtain ⟨r, hr⟩ := free_head m1 h1 hx
      rw [hr] at tn e3
      have tn' : dTest (dOp fNe (dVar 11) (dLst dNil)) (Δl x0 x1 x2 st x4 (gI v.m w.m) x6 x7 v w (some (.int (b : Nat))) (some (.obj s1.length)) x12 x13 x14) s2 = some (.ok true, s3) := tn
      rw [dIf_eq, mbind_ok, tn']
      have ix : fIx (.obj s1.length) (.int 0) s3 = some (.int x, s3) := by
        rw [fIx_obj, e3]
        have e0 : atI ((x :: r).map D.int) 0 = some (.int x) := by
          unfold atI ixN
          simp
        show (match atI ((x :: r).map D.int) 0 with | some d => some (d, s3) | none => none) = _
        rw [e0]
      exact op5 (a := dVar 11) (b := dC (.int 0)) (x := .obj s1.length) (s1 := s3) (s2 := s3) rfl rfl ix
  have ri : r' = .non ∨ ∃ x, r' = .int x := by
    rcases n3 with ⟨_, rfl⟩ | ⟨_, x, rfl, _⟩
    · exact .inl rfl
    · exact .inr ⟨x, rfl⟩
  have c1 : dCl (argN 3 (M_next_clear A)) (dCons (dVar 8) (dCons (dVar 9) (dCons (dVar 10) dNil))) (Δl x0 x1 x2 st x4 (gI v.m w.m) x6 x7 v w (some (.int (b : Nat))) (some (.obj s1.length)) (some r') x13 x14) s3 = some (.ok r', s4) := (cl5 (xs := [v.d, w.d, .int (b : Nat)]) (s1 := s3) (cn (s1 := s3) rfl (cn (s1 := s3) rfl (cn (s1 := s3) rfl rfl)))).trans ((ag5 rfl).trans n1)
  have c2 : dClK 0 3 [2, 1, 0] (M_next_clear A) dNil (dCons (dVar 10) (dCons (dVar 9) (dCons (dVar 8) dNil))) (Δl x0 x1 x2 st x4 (gI v.m w.m) x6 x7 v w (some (.int (b : Nat))) (some (.obj s1.length)) (some r') x13 x14) s4 = some (.ok r', s5) := by
    have ar : (dCons (dVar 10) (dCons (dVar 9) (dCons (dVar 8) dNil))) (Δl x0 x1 x2 st x4 (gI v.m w.m) x6 x7 v w (some (.int (b : Nat))) (some (.obj s1.length)) (some r') x13 x14) s4 = some (.ok [.int (b : Nat), w.d, v.d], s4) := cn (s1 := s4) rfl (cn (s1 := s4) rfl (cn (s1 := s4) rfl rfl))
    unfold dClK
    rw [mbind_ok, dNil_eq]
    show mbind _ _ s4 = _
    rw [mbind_ok, ar]
    exact k1
  have t4 : l4t A (Δl x0 x1 x2 st x4 (gI v.m w.m) x6 x7 v w (some (.int (b : Nat))) (some (.obj s1.length)) (some r') x13 x14) s3 = some (.ok false, s5) := (or5 (te5 (op5 (s2 := s4) c1 rfl (ne_same r' ri s4)))).trans (te5 (op5 (s2 := s5) c2 rfl (ne_same r' ri s5)))
  refine ⟨some (.int (b : Nat)), some (.obj s1.length), some r', s5, ?_, ((r1.gr G3).gr n2).gr k2, ((q1.trans (Gr.sm G3)).trans (Gr.sm n2)).trans (Gr.sm k2)⟩
  unfold lapB
  rw [seq_nx a1, seq_nx a2, seq_nx a3]
  exact no5 t4
end
end My

set_option maxHeartbeats 4000000
namespace My
open PySem L2 PyProof.Rows DV
/-! ### a cell of the law -/
abbrev u1s (A : Ax) : DS := dAsg (dCl (argN 2 (M_u_law_begin A)) (dCons (dVar 2) (dCons (dVar 1) dNil))) (gN 3)
abbrev u2d : DA := (dCons (dLstRg2 (dC (.int 1)) (dC (.int 13))) (dCons (dLst (dCons (dC (.int 2)) (dCons (dC (.int 4)) (dCons (dC (.int 6)) (dCons (dC (.int 8)) (dCons (dC (.int 12)) dNil)))))) (dCons (dLst (dCons (dC (.int 6)) (dCons (dC (.int 12)) (dCons (dC (.int 24)) dNil)))) (dCons (dLst (dCons (dC (.int 3)) (dCons (dC (.int 5)) (dCons (dC (.int 15)) dNil)))) (dCons (dLst (dCons (dC (.int 8)) (dCons (dC (.int 16)) dNil))) dNil)))))
abbrev u2s (A : Ax) : DS := dAsg (dCl (argN 2 (M_u_law_pick A)) (dCons (dVar 3) (dCons (dLst u2d) dNil))) (gN 4)
abbrev vx (A : Ax) : DX := dCl (argN 2 (M_u_law_voice A)) (dCons (dVar 3) (dCons (dVar 4) dNil))
abbrev u3s (A : Ax) : DS := dAsg (dTup (dCons (vx A) (dCons (vx A) dNil))) (gTp 2 (gsCons (gN 8) (gsCons (gN 9) gsNil)))
abbrev u4s (A : Ax) : DS := dAsg (dCl (argN 2 (M_u_law_gcd A)) (dCons (dOp fIx (dVar 8) (dC (.int 0))) (dCons (dOp fIx (dVar 9) (dC (.int 0))) dNil))) (gN 5)
abbrev u5t (A : Ax) : DT := dTruth (dCl (argN 3 (M_u_law_meet A)) (dCons (dVar 8) (dCons (dVar 9) (dCons (dVar 13) dNil))))
abbrev u5s (A : Ax) : DS := dAsg (dCB fTuple (dCons (dLc [13] (iRange1 (dCons (dVar 5) dNil)) (gN 13) (u5t A) (dVar 13)) dNil)) (gN 6)
abbrev u6t (A : Ax) : DT := dOr (dTest (dOp fNe (dCl (argN 2 (M_clashes A)) (dCons (dVar 8) (dCons (dVar 9) dNil))) (dTup (dCons (dVar 5) (dCons (dVar 6) dNil))))) (dTest (dOp fNe (dClK 0 2 [1, 0] (M_clashes A) dNil (dCons (dVar 9) (dCons (dVar 8) dNil))) (dTup (dCons (dVar 5) (dCons (dVar 6) dNil)))))
abbrev u7s (A : Ax) : DS := dFor (iRange1 (dCons (dC (.int 3)) dNil)) (gN 7) (lapB A)
abbrev u8t (A : Ax) : DT := dOr (dNot (dTruth (dCl (argN 3 (M_u_law_refused A)) (dCons (dVar 3) (dCons (dVar 8) (dCons (dVar 9) dNil)))))) (dNot (dTruth (dCl (argN 1 (M_u_law_great_right A)) (dCons (dVar 3) dNil))))
def cellB (A : Ax) : DS := dSeq (u1s A) (dSeq (u2s A) (dSeq (u3s A) (dSeq (u4s A) (dSeq (u5s A) (dSeq (noS (u6t A)) (dSeq (u7s A) (noS (u8t A))))))))
theorem ds_law_eq (A : Ax) : ds_law A = dSeq (dFor (iEnum (dCons (dSl fSlA (dOrT (dVar 0) (dLst (dCons (dC (.int 5)) dNil))) dNoPt (dPt (dC (.int 4)))) dNil)) (gTp 2 (gsCons (gN 1) (gsCons (gN 2) gsNil))) (cellB A)) (dRet (dC (.bl true))) := rfl
/-- a list of lengths -/
def LenO (b : Nat) (s : Sto) (x : D) : Prop := ∃ (p : Nat) (lens : List Int), x = .obj p ∧ b ≤ p ∧ lstAt s p = some (lens.map D.int) ∧ (∀ y ∈ lens, 1 ≤ y ∧ y ≤ 24) ∧ 0 < lens.length ∧ lens.length ≤ 900
theorem LenO.gr {b : Nat} {s s' : Sto} {x : D} (h : LenO b s x) (g : Gr s s') : LenO b s' x := by
  obtain ⟨p, l, h1, h2, h3, h4⟩ := h
  exact ⟨p, l, h1, h2, g.lst h3, h4⟩
theorem len_new {b : Nat} {s : Sto} (l : List Int) (hb : b ≤ s.length) (h : (l.all fun y => decide (1 ≤ y) && decide (y ≤ 24)) = true) (h0 : 0 < l.length) (h1 : l.length ≤ 900) : LenO b (s ++ [.lst (l.map D.int)]) (.obj s.length) :=
  ⟨_, l, rfl, hb, lstAt_new, fun y hy => by simpa using List.all_eq_true.mp h y hy, h0, h1⟩
theorem u2_run (Δ : Dn) (s : Sto) : ∃ xs s', u2d Δ s = some (.ok xs, s') ∧ Gr s s' ∧ 0 < xs.length ∧ xs.length < 1000 ∧ ∀ x ∈ xs, LenO s.length s' x := by
  have a1 : dLstRg2 (dC (.int 1)) (dC (.int 13)) Δ s = some (.ok (.obj s.length), s ++ [.lst ([1, 2, 3, 4, 5, 6, 7, 8, 9, 10, 11, 12].map D.int)]) := by
    show (if rgOkB 1 13 = true then some (Except.ok (D.obj s.length), s ++ [DO.lst (rgD 1 13)]) else none) = _
    rw [if_pos (by decide)]
    rfl
  have l1 := len_new (b := s.length) (s := s) [1, 2, 3, 4, 5, 6, 7, 8, 9, 10, 11, 12] (Nat.le_refl _) (by decide) (by decide) (by decide)
  have g1 : Gr s (s ++ [DO.lst ([1, 2, 3, 4, 5, 6, 7, 8, 9, 10, 11, 12].map D.int)]) := Gr.app
  generalize (s ++ [DO.lst ([1, 2, 3, 4, 5, 6, 7, 8, 9, 10, 11, 12].map D.int)]) = s1 at *
  have a2 : dLst (dCons (dC (.int 2)) (dCons (dC (.int 4)) (dCons (dC (.int 6)) (dCons (dC (.int 8)) (dCons (dC (.int 12)) dNil))))) Δ s1 = some (.ok (.obj s1.length), s1 ++ [.lst ([2, 4, 6, 8, 12].map D.int)]) := ls (s1 := s1) (cn (s1 := s1) rfl (cn (s1 := s1) rfl (cn (s1 := s1) rfl (cn (s1 := s1) rfl (cn (s1 := s1) rfl rfl))))) (by simp)
  have l2 := len_new (b := s.length) (s := s1) [2, 4, 6, 8, 12] g1.len (by decide) (by decide) (by decide)
  have g2 : Gr s1 (s1 ++ [DO.lst ([2, 4, 6, 8, 12].map D.int)]) := Gr.app
  generalize (s1 ++ [DO.lst ([2, 4, 6, 8, 12].map D.int)]) = s2 at *
  have G2 := g1.trans g2
  have a3 : dLst (dCons (dC (.int 6)) (dCons (dC (.int 12)) (dCons (dC (.int 24)) dNil))) Δ s2 = some (.ok (.obj s2.length), s2 ++ [.lst ([6, 12, 24].map D.int)]) := ls (s1 := s2) (cn (s1 := s2) rfl (cn (s1 := s2) rfl (cn (s1 := s2) rfl rfl))) (by simp)
  have l3 := len_new (b := s.length) (s := s2) [6, 12, 24] G2.len (by decide) (by decide) (by decide)
  have g3 : Gr s2 (s2 ++ [DO.lst ([6, 12, 24].map D.int)]) := Gr.app
  generalize (s2 ++ [DO.lst ([6, 12, 24].map D.int)]) = s3 at *
  have G3 := G2.trans g3
  have a4 : dLst (dCons (dC (.int 3)) (dCons (dC (.int 5)) (dCons (dC (.int 15)) dNil))) Δ s3 = some (.ok (.obj s3.length), s3 ++ [.lst ([3, 5, 15].map D.int)]) := ls (s1 := s3) (cn (s1 := s3) rfl (cn (s1 := s3) rfl (cn (s1 := s3) rfl rfl))) (by simp)
  have l4 := len_new (b := s.length) (s := s3) [3, 5, 15] G3.len (by decide) (by decide) (by decide)
  have g4 : Gr s3 (s3 ++ [DO.lst ([3, 5, 15].map D.int)]) := Gr.app
  generalize (s3 ++ [DO.lst ([3, 5, 15].map D.int)]) = s4 at *
  have G4 := G3.trans g4
  have a5 : dLst (dCons (dC (.int 8)) (dCons (dC (.int 16)) dNil)) Δ s4 = some (.ok (.obj s4.length), s4 ++ [.lst ([8, 16].map D.int)]) := ls (s1 := s4) (cn (s1 := s4) rfl (cn (s1 := s4) rfl rfl)) (by simp)
  have l5 := len_new (b := s.length) (s := s4) [8, 16] G4.len (by decide) (by decide) (by decide)
  have g5 : Gr s4 (s4 ++ [DO.lst ([8, 16].map D.int)]) := Gr.app
  generalize (s4 ++ [DO.lst ([8, 16].map D.int)]) = s5 at *
  refine ⟨[.obj s.length, .obj s1.length, .obj s2.length, .obj s3.length, .obj s4.length], s5, cn a1 (cn a2 (cn a3 (cn a4 (cn a5 rfl)))), G4.trans g5, by simp, by simp, fun x hx => ?_⟩
  simp only [List.mem_cons, List.not_mem_nil, or_false] at hx
  rcases hx with rfl | rfl | rfl | rfl | rfl
  · exact l1.gr (((g2.trans g3).trans g4).trans g5)
  · exact l2.gr ((g3.trans g4).trans g5)
  · exact l3.gr (g4.trans g5)
  · exact l4.gr g5
  · exact l5
inductive CD (x0 : Option D) : Dn → Prop
  | mk (x1 x2 x3 x4 x5 x6 x7 x8 x9 x10 x11 x12 x13 x14 : Option D) : CD x0 [x0, x1, x2, x3, x4, x5, x6, x7, x8, x9, x10, x11, x12, x13, x14]
section
variable {A : Ax} {s : Sto} {st K : Nat} {v w : Vo}
theorem u3_run {p : Nat} {lens : List Int} (h : Rnd s st (K + 20)) (e : lstAt s p = some (lens.map D.int)) (hp : p ≠ st) (hl : ∀ x ∈ lens, 1 ≤ x ∧ x ≤ 24) (h0 : 0 < lens.length) (h1 : lens.length ≤ 900) (x0 x1 x2 x5 x6 x7 x8 x9 x10 x11 x12 x13 x14 : Option D) :
    ∃ v w s', u3s A [x0, x1, x2, some (.obj st), some (.obj p), x5, x6, x7, x8, x9, x10, x11, x12, x13, x14] s = some (.nx [x0, x1, x2, some (.obj st), some (.obj p), x5, x6, x7, some (Vo.d v), some (Vo.d w), x10, x11, x12, x13, x14], s') ∧ Sv 24 v ∧ v.e ≤ 60 ∧ Sv 24 w ∧ w.e ≤ 60 ∧ Rnd s' st K ∧ Sm st s s' := by
  obtain ⟨v, s1, a1, v1, v2, r1, m1⟩ := voice_run (A := A) (K := K + 10) h e hp hl h0 h1
  obtain ⟨w, s2, a2, w1, w2, r2, m2⟩ := voice_run (A := A) (K := K) r1 (m1.lst e hp) hp hl h0 h1
  have b : ∀ {y : D} {s s' : Sto}, M_u_law_voice A [.obj st, .obj p] s = some (.ok y, s') → vx A [x0, x1, x2, some (.obj st), some (.obj p), x5, x6, x7, x8, x9, x10, x11, x12, x13, x14] s = some (.ok y, s') := fun {y s s'} a => (cl5 (xs := [.obj st, .obj p]) (s1 := s) (cn (s1 := s) rfl (cn (s1 := s) rfl rfl))).trans ((ag5 rfl).trans a)
  exact ⟨v, w, s2, asg (tp (xs := [Vo.d v, Vo.d w]) (cn (b a1) (cn (b a2) rfl)) (by simp)) rfl, v1, v2, w1, w2, r2, m1.trans m2⟩
abbrev Δu (x0 x1 x2 : Option D) (st : Nat) (x4 : Option D) (g : Int) (c : List Int) (x7 : Option D) (v w : Vo) (x10 x11 x12 x13 x14 : Option D) : Dn := [x0, x1, x2, some (.obj st), x4, some (.int g), some (.tup (c.map D.int)), x7, some v.d, some w.d, x10, x11, x12, x13, x14]
theorem u4_run (hv : Sv 24 v) (hw : Sv 24 w) (x0 x1 x2 x3 x4 x5 x6 x7 x10 x11 x12 x13 x14 : Option D) : u4s A [x0, x1, x2, x3, x4, x5, x6, x7, some v.d, some w.d, x10, x11, x12, x13, x14] s = some (.nx [x0, x1, x2, x3, x4, some (.int (gI v.m w.m)), x6, x7, some v.d, some w.d, x10, x11, x12, x13, x14], s) := by
  have m1 := hv.m1
  have n1 := hw.m1
  have n2 := hw.m2
  have i1 : dOp fIx (dVar 8) (dC (.int 0)) [x0, x1, x2, x3, x4, x5, x6, x7, some v.d, some w.d, x10, x11, x12, x13, x14] s = some (.ok (.int v.m), s) := op5 (x := v.d) (s1 := s) (s2 := s) rfl rfl ix3_0
  have i2 : dOp fIx (dVar 9) (dC (.int 0)) [x0, x1, x2, x3, x4, x5, x6, x7, some v.d, some w.d, x10, x11, x12, x13, x14] s = some (.ok (.int w.m), s) := op5 (x := w.d) (s1 := s) (s2 := s) rfl rfl ix3_0
  have lt : w.m < 2 ^ 49 := Int.lt_of_le_of_lt n2 (by decide)
  exact asg ((cl5 (xs := [.int v.m, .int w.m]) (s1 := s) (cn i1 (cn i2 rfl))).trans ((ag5 rfl).trans (lgcd A s (by omega) (by omega) lt))) rfl
theorem u5_run (hv : Sv 24 v) (hw : Sv 24 w) (ev : v.e ≤ 60) (ew : w.e ≤ 60) (x0 x1 x2 x3 x4 x6 x7 x10 x11 x12 x13 x14 : Option D) :
    ∃ s', u5s A [x0, x1, x2, x3, x4, some (.int (gI v.m w.m)), x6, x7, some v.d, some w.d, x10, x11, x12, x13, x14] s = some (.nx [x0, x1, x2, x3, x4, some (.int (gI v.m w.m)), some (.tup ((v.cl w).map D.int)), x7, some v.d, some w.d, x10, x11, x12, x13, x14], s') ∧ Gr s s' := by
  have m1 := hv.m1
  have m2 := hv.m2
  have g0 := gI_pos w.m m1
  have gle := gI_le w.m m1
  obtain ⟨n, hn⟩ : ∃ n : Nat, gI v.m w.m = n := ⟨(gI v.m w.m).toNat, by omega⟩
  have hi : iRange1 (dCons (dVar 5) dNil) [x0, x1, x2, x3, x4, some (.int (gI v.m w.m)), x6, x7, some v.d, some w.d, x10, x11, x12, x13, x14] s = some (.ok (rngI 0 n), s) := range1 (cn (s1 := s) (x := .int (gI v.m w.m)) rfl (show dNil _ s = some (.ok [], s) from rfl) |>.trans (by rw [hn])) (by omega)
  obtain ⟨s2, w1, w2, w3⟩ := waits_run (A := A) (s := s) hv hw ev ew (lo := 0) (n := n) (by omega) (by omega) rfl (j := 13) (tt := u5t A) (Δ := [x0, x1, x2, x3, x4, some (.int (gI v.m w.m)), x6, x7, some v.d, some w.d, x10, x11, x12, none, x14]) true (fun k s1 s2 c hm => tr5 ((cl5 (xs := [v.d, w.d, .int k]) (s1 := s1) (cn (s1 := s1) rfl (cn (s1 := s1) rfl (cn (s1 := s1) rfl rfl)))).trans ((ag5 rfl).trans hm))) (by simp)
  have dq := due_eq (v := v) (w := w) m1
  have nn : (gI v.m w.m).toNat = n := by omega
  rw [nn] at dq
  have w3' : lstAt s2 s.length = some (((rgI 0 n).filter (meetB v w)).map D.int) := w3
  rw [dq] at w3'
  exact ⟨s2, asg (cb5 (cn (lc_of hi w1) rfl) (tuple_obj w3')) rfl, w2⟩
theorem u6_run (hv : Sv 24 v) (hw : Sv 24 w) (x0 x1 x2 x3 x4 x7 x10 x11 x12 x13 x14 : Option D) :
    ∃ s', noS (u6t A) [x0, x1, x2, x3, x4, some (.int (gI v.m w.m)), some (.tup ((v.cl w).map D.int)), x7, some v.d, some w.d, x10, x11, x12, x13, x14] s = some (.nx [x0, x1, x2, x3, x4, some (.int (gI v.m w.m)), some (.tup ((v.cl w).map D.int)), x7, some v.d, some w.d, x10, x11, x12, x13, x14], s') ∧ Gr s s' := by
  have m1 := hv.m1
  have v1 := hv.voB (by decide)
  have w1 := hw.voB (by decide)
  have zv : v.as.length ≤ 900 := by have := hv.a2; omega
  have zw : w.as.length ≤ 900 := by have := hw.a2; omega
  have zz : v.as.length * w.as.length < 64 := Nat.lt_of_le_of_lt (Nat.mul_le_mul hv.a2 hw.a2) (by decide)
  obtain ⟨s1, c1, g1⟩ := clashes_ok (A := A) (s := s) v1 w1 m1 zz zv zw
  obtain ⟨s2, c2, g2⟩ := clashes_ok (A := A) (s := s1) v1 w1 m1 zz zv zw
  have d1 : dCl (argN 2 (M_clashes A)) (dCons (dVar 8) (dCons (dVar 9) dNil)) [x0, x1, x2, x3, x4, some (.int (gI v.m w.m)), some (.tup ((v.cl w).map D.int)), x7, some v.d, some w.d, x10, x11, x12, x13, x14] s = some (.ok (.tup [.int (gI v.m w.m), .tup ((v.cl w).map D.int)]), s1) := (cl5 (xs := [v.d, w.d]) (s1 := s) (cn (s1 := s) rfl (cn (s1 := s) rfl rfl))).trans ((ag5 rfl).trans c1)
  have d2 : dClK 0 2 [1, 0] (M_clashes A) dNil (dCons (dVar 9) (dCons (dVar 8) dNil)) [x0, x1, x2, x3, x4, some (.int (gI v.m w.m)), some (.tup ((v.cl w).map D.int)), x7, some v.d, some w.d, x10, x11, x12, x13, x14] s1 = some (.ok (.tup [.int (gI v.m w.m), .tup ((v.cl w).map D.int)]), s2) := by
    have ar : (dCons (dVar 9) (dCons (dVar 8) dNil)) [x0, x1, x2, x3, x4, some (.int (gI v.m w.m)), some (.tup ((v.cl w).map D.int)), x7, some v.d, some w.d, x10, x11, x12, x13, x14] s1 = some (.ok [w.d, v.d], s1) := cn (s1 := s1) rfl (cn (s1 := s1) rfl rfl)
    unfold dClK
    rw [mbind_ok, dNil_eq]
    show mbind _ _ s1 = _
    rw [mbind_ok, ar]
    exact c2
  have tq : ∀ s : Sto, dTup (dCons (dVar 5) (dCons (dVar 6) dNil)) [x0, x1, x2, x3, x4, some (.int (gI v.m w.m)), some (.tup ((v.cl w).map D.int)), x7, some v.d, some w.d, x10, x11, x12, x13, x14] s = some (.ok (.tup [.int (gI v.m w.m), .tup ((v.cl w).map D.int)]), s) := fun s => tp (xs := [.int (gI v.m w.m), .tup ((v.cl w).map D.int)]) (cn (s1 := s) rfl (cn (s1 := s) rfl rfl)) (by simp)
  have ne : ∀ s : Sto, fNe (.tup [.int (gI v.m w.m), .tup ((v.cl w).map D.int)]) (.tup [.int (gI v.m w.m), .tup ((v.cl w).map D.int)]) s = some (.bl false, s) := fun s => fNe_same (pair_py s _ _) (pair_py s _ _) (pair_shp _ _)
  exact ⟨s2, no5 ((or5 (te5 (op5 d1 (tq s1) (ne s1)))).trans (te5 (op5 d2 (tq s2) (ne s2)))), g1.trans g2⟩
theorem u7_run (hv : Sv 24 v) (hw : Sv 24 w) (ev : v.e ≤ 60) (ew : w.e ≤ 60) (h : Rnd s st (K + 3)) (x0 x1 x2 x4 x6 x7 x10 x11 x12 x13 x14 : Option D) :
    ∃ y7 y10 y11 y12 s', u7s A (Δl x0 x1 x2 st x4 (gI v.m w.m) x6 x7 v w x10 x11 x12 x13 x14) s = some (.nx (Δl x0 x1 x2 st x4 (gI v.m w.m) x6 y7 v w y10 y11 y12 x13 x14), s') ∧ Rnd s' st K ∧ Sm st s s' := by
  have hi : iRange1 (dCons (dC (.int 3)) dNil) (Δl x0 x1 x2 st x4 (gI v.m w.m) x6 x7 v w x10 x11 x12 x13 x14) s = some (.ok (rngI 0 (3 : Nat)), s) := range1 (k := 3) (cn (s1 := s) rfl rfl) (by decide)
  obtain ⟨Δ', s', q1, ⟨y7, y10, y11, y12, rfl⟩, q2, q3⟩ := for_gen (I := rngI 0 (3 : Nat)) (g := gN 7) (b := lapB A)
    (fun r Δ s' => (∃ y7 y10 y11 y12, Δ = Δl x0 x1 x2 st x4 (gI v.m w.m) x6 y7 v w y10 y11 y12 x13 x14) ∧ Rnd s' st (K + r.length) ∧ Sm st s s')
    (fun r Δ s _ => rfl) (fun d r Δ s1 ⟨⟨y7, y10, y11, y12, e⟩, r1, m1⟩ => by
      subst e
      obtain ⟨z10, z11, z12, s2, a1, r2, m2⟩ := lap_run (A := A) (K := K + r.length) hv hw ev ew r1 x0 x1 x2 x4 x6 (some d) y10 y11 y12 x13 x14
      exact ⟨_, s1, rfl, _, s2, a1, ⟨some d, z10, z11, z12, rfl⟩, r2, m1.trans m2⟩) (rngI 0 (3 : Nat)).its (Δl x0 x1 x2 st x4 (gI v.m w.m) x6 x7 v w x10 x11 x12 x13 x14) s ⟨⟨x7, x10, x11, x12, rfl⟩, h, Sm.refl _ _⟩
  exact ⟨y7, y10, y11, y12, s', for_of hi q1, q2, q3⟩
theorem u8_run (hne : A.c_BadTime ≠ A.c_BadVoice) (tab : s[0]? = some (.tab A.pt_u_law_refused RQ)) (st0 : st ≠ 0) (h : Rnd s st (K + 19)) (hv : Sv 24 v) (hw : Sv 24 w) (x0 x1 x2 x4 x5 x6 x7 x10 x11 x12 x13 x14 : Option D) :
    ∃ s', noS (u8t A) [x0, x1, x2, some (.obj st), x4, x5, x6, x7, some v.d, some w.d, x10, x11, x12, x13, x14] s = some (.nx [x0, x1, x2, some (.obj st), x4, x5, x6, x7, some v.d, some w.d, x10, x11, x12, x13, x14], s') ∧ Sm st s s' := by
  obtain ⟨s1, a1, r1, m1⟩ := refused_run (A := A) (K := K + 17) hne tab st0 h hv hw
  obtain ⟨s2, a2, r2, m2⟩ := great_run (A := A) (K := K) r1
  have d1 : dCl (argN 3 (M_u_law_refused A)) (dCons (dVar 3) (dCons (dVar 8) (dCons (dVar 9) dNil))) [x0, x1, x2, some (.obj st), x4, x5, x6, x7, some v.d, some w.d, x10, x11, x12, x13, x14] s = some (.ok (.bl true), s1) := (cl5 (xs := [.obj st, v.d, w.d]) (s1 := s) (cn (s1 := s) rfl (cn (s1 := s) rfl (cn (s1 := s) rfl rfl)))).trans ((ag5 rfl).trans a1)
  have d2 : dCl (argN 1 (M_u_law_great_right A)) (dCons (dVar 3) dNil) [x0, x1, x2, some (.obj st), x4, x5, x6, x7, some v.d, some w.d, x10, x11, x12, x13, x14] s1 = some (.ok (.bl true), s2) := (cl5 (xs := [.obj st]) (s1 := s1) (cn (s1 := s1) rfl rfl)).trans ((ag5 rfl).trans a2)
  exact ⟨s2, no5 ((or5 (no_t (tr5 d1))).trans (no_t (tr5 d2))), m1.trans m2⟩
end
theorem cell_turn (A : Ax) (hne : A.c_BadTime ≠ A.c_BadVoice) (s0 : Sto) (tab : s0[0]? = some (.tab A.pt_u_law_refused RQ)) {x0 : Option D} {Δ : Dn} (hΔ : CD x0 Δ) (i : Nat) (c : Int) (hi : i < 100) : ∃ Δ' s', cellB A ((Δ.set 1 (some (.int i))).set 2 (some (.int c))) s0 = some (.nx Δ', s') ∧ CD x0 Δ' ∧ Gr s0 s' := by
  obtain ⟨x1, x2, x3, x4, x5, x6, x7, x8, x9, x10, x11, x12, x13, x14⟩ := hΔ
  have l0 : 0 < s0.length := (List.getElem?_eq_some_iff.mp tab).1
  obtain ⟨s1, a1, g1, r1⟩ := begin_asg A (s := s0) (Δ := [x0, some (.int i), some (.int c), x3, x4, x5, x6, x7, x8, x9, x10, x11, x12, x13, x14]) (Δ1 := [x0, some (.int i), some (.int c), some (.obj s0.length), x4, x5, x6, x7, x8, x9, x10, x11, x12, x13, x14]) (g := gN 3) (i := 2) (j := 1) (c := c) (k := i) hi rfl rfl (fun _ => rfl)
  obtain ⟨xs, s2, b1, g2, n0, n1, nx⟩ := u2_run [x0, some (.int i), some (.int c), some (.obj s0.length), x4, x5, x6, x7, x8, x9, x10, x11, x12, x13, x14] s1
  obtain ⟨d, s3, a2, hd, r3, m3⟩ := pick_gen (A := A) (K := 42) (i := 3) (st := s0.length) (s := s1) (Δ := [x0, some (.int i), some (.int c), some (.obj s0.length), x4, x5, x6, x7, x8, x9, x10, x11, x12, x13, x14]) rfl b1 ((r1.mono (by decide)).gr g2) n0 n1
  obtain ⟨p, lens, rfl, hp, e2, hl, h0, h1⟩ := nx d hd
  have L1 := r1.lt
  have pn : p ≠ s0.length := by omega
  have a2' : u2s A [x0, some (.int i), some (.int c), some (.obj s0.length), x4, x5, x6, x7, x8, x9, x10, x11, x12, x13, x14] s1 = some (.nx [x0, some (.int i), some (.int c), some (.obj s0.length), some (.obj p), x5, x6, x7, x8, x9, x10, x11, x12, x13, x14], s3) := asg a2 rfl
  obtain ⟨v, w, s4, a3, v1, v2, w1, w2, r4, m4⟩ := u3_run (A := A) (K := 22) r3 (m3.lst e2 pn) pn hl h0 h1 x0 (some (.int i)) (some (.int c)) x5 x6 x7 x8 x9 x10 x11 x12 x13 x14
  have a4 := u4_run (A := A) (s := s4) v1 w1 x0 (some (.int i)) (some (.int c)) (some (.obj s0.length)) (some (.obj p)) x5 x6 x7 x10 x11 x12 x13 x14
  obtain ⟨s5, a5, g5⟩ := u5_run (A := A) (s := s4) v1 w1 v2 w2 x0 (some (.int i)) (some (.int c)) (some (.obj s0.length)) (some (.obj p)) x6 x7 x10 x11 x12 x13 x14
  obtain ⟨s6, a6, g6⟩ := u6_run (A := A) (s := s5) v1 w1 x0 (some (.int i)) (some (.int c)) (some (.obj s0.length)) (some (.obj p)) x7 x10 x11 x12 x13 x14
  obtain ⟨y7, y10, y11, y12, s7, a7, r7, m7⟩ := u7_run (A := A) (K := 19) v1 w1 v2 w2 ((r4.gr g5).gr g6) x0 (some (.int i)) (some (.int c)) (some (.obj p)) (some (.tup ((v.cl w).map D.int))) x7 x10 x11 x12 x13 x14
  have m17 : Sm s0.length s1 s7 := (((((Gr.sm g2).trans m3).trans m4).trans (Gr.sm g5)).trans (Gr.sm g6)).trans m7
  have tab7 : s7[0]? = some (.tab A.pt_u_law_refused RQ) := m17.at (gr_at g1 tab) (by omega)
  obtain ⟨s8, a8, m8⟩ := u8_run (A := A) (K := 0) hne tab7 (by omega) r7 v1 w1 x0 (some (.int i)) (some (.int c)) (some (.obj p)) (some (.int (gI v.m w.m))) (some (.tup ((v.cl w).map D.int))) y7 y10 y11 y12 x13 x14
  have m18 := m17.trans m8
  refine ⟨_, s8, ?_, .mk (some (.int i)) (some (.int c)) (some (.obj s0.length)) (some (.obj p)) (some (.int (gI v.m w.m))) (some (.tup ((v.cl w).map D.int))) y7 (some v.d) (some w.d) y10 y11 y12 x13 x14, gr_old (by have := g1.len; have := m18.1; omega) fun j hj => ?_⟩
  · show cellB A [x0, some (.int i), some (.int c), x3, x4, x5, x6, x7, x8, x9, x10, x11, x12, x13, x14] s0 = _
    unfold cellB
    have a1' : u1s A [x0, some (.int i), some (.int c), x3, x4, x5, x6, x7, x8, x9, x10, x11, x12, x13, x14] s0 = _ := a1
    rw [seq_nx a1', seq_nx a2', seq_nx a3, seq_nx a4, seq_nx a5, seq_nx a6, seq_nx a7]
    exact a8
  · have G1 := g1.len
    rw [m18.2 j (by omega) (by omega), old_gr g1 hj]
theorem law_true (A : Ax) (hne : A.c_BadTime ≠ A.c_BadVoice) : AllTrueL (lmsA A) (M_law A) := by
  intro ns hns
  have hst : startD 15 [D.fz (ns.map D.int)] = [some (.fz (ns.map D.int)), none, none, none, none, none, none, none, none, none, none, none, none, none, none] := rfl
  have t0 : (tabO (lmsA A))[0]? = some (.tab A.pt_u_law_refused RQ) := rfl
  obtain ⟨m, s, xs, h1, h2, g0, h3⟩ := head_it (ns := ns) hns (Δ := startD 15 [D.fz (ns.map D.int)]) (s := tabO (lmsA A)) (i := 0) (d := 5) (hi := 4) rfl
  obtain ⟨Δ', s', q1, q2, q3, q4, q5⟩ := for_gen (I := ⟨enumD 0 xs, some (m, xs)⟩) (g := gTp 2 (gsCons (gN 1) (gsCons (gN 2) gsNil))) (b := cellB A)
    (fun r Δ s => CD (some (.fz (ns.map D.int))) Δ ∧ lstAt s m = some xs ∧ s[0]? = some (.tab A.pt_u_law_refused RQ) ∧ ∀ d ∈ r, ∃ (i : Nat) (c : Int), i < 100 ∧ d = .tup [.int i, .int c])
    (fun r Δ s ⟨_, h, _⟩ => still_of h) (fun d r Δ s ⟨a1, a2, a0, a3⟩ => by
      obtain ⟨i, c, hi, rfl⟩ := a3 d (by simp)
      obtain ⟨Δ2, s2, b1, b2, b3⟩ := cell_turn A hne s a0 a1 i c hi
      exact ⟨_, s, rfl, Δ2, s2, b1, b2, b3.lst a2, gr_at b3 a0, fun d hd => a3 d (by simp [hd])⟩) (enumD 0 xs) (startD 15 [D.fz (ns.map D.int)]) s ⟨by rw [hst]; exact .mk _ _ _ _ _ _ _ _ _ _ _ _ _ _, h2, gr_at g0 t0, fun d hd => by
        obtain ⟨i, x, e1, e2, e3⟩ := enum_mem xs 0 d hd
        obtain ⟨c, rfl⟩ := h1.2 x e2
        exact ⟨i, c, by have := h1.1; omega, e3⟩⟩
  refine ⟨s', fn_rt ?_⟩
  rw [ds_law_eq, seq_nx (for_of h3 q1)]
  rfl
theorem dis {K : PySem.W.Frag} {mg : Str → Option Value} {A : Ax} (T : Tx K mg A) : A.c_BadTime ≠ A.c_BadVoice := fun e => by
  have h1 := T.ix_BadVoice_BadTime.one
  have h2 := T.ix_BadVoice_BadVoice.one
  rw [e, h2] at h1
  simp at h1
end My

namespace My
open PySem L2 PyProof.Rows DV
theorem all_mk {l : PySem.W.OpenLaw} {w : World} {K : PySem.W.Frag} {h : Heap} {mg : Str → Option Value} {fa ct_u_law_refused pt_u_law_refused f19 f1 f2 f3 f4 f5 f6 f7 f8 f9 f10 f11 f12 f13 f14 f15 f16 f17 f18 C_BadTime C_BadVoice C_RhythmError : Addr} (X : K.In h) (G : h.Ns mainGlobals mg) (hfa : mg "law" = some (.ref fa)) (own : ∀ n ∈ (["_law_refused"] : List Str), ∀ a, mg n = some (.ref a) → LamX.OwnTab K a h)
    {od1 an1 od2 an2 od3 an3 od4 an4 od5 an5 od6 an6 od7 an7 od8 an8 od9 an9 od10 an10 od11 an11 od12 an12 od13 an13 od14 an14 od15 an15 od16 an16 od17 an17 od18 an18 od19 an19 : Option Addr} {sl1 sl2 sl3 sl4 sl5 sl6 sl7 sl8 sl9 sl10 sl11 sl12 sl13 sl14 sl15 sl16 sl17 sl18 sl19 : Array (Option Value)} {oc1 kV1 dc1 pm1 cd1 ct1 oc2 kV2 dc2 pm2 cd2 ct2 oc3 kV3 dc3 pm3 cd3 ct3 oc4 kV4 dc4 pm4 cd4 ct4 oc5 kV5 dc5 pm5 cd5 ct5 oc6 kV6 dc6 pm6 cd6 ct6 oc7 kV7 dc7 pm7 cd7 ct7 oc8 kV8 dc8 pm8 cd8 ct8 oc9 kV9 dc9 pm9 cd9 ct9 oc10 kV10 dc10 pm10 cd10 ct10 oc11 kV11 dc11 pm11 cd11 ct11 oc12 kV12 dc12 pm12 cd12 ct12 oc13 kV13 dc13 pm13 cd13 ct13 oc14 kV14 dc14 pm14 cd14 ct14 oc15 kV15 dc15 pm15 cd15 ct15 oc16 kV16 dc16 pm16 ct16 oc17 kV17 dc17 pm17 cd17 ct17 oc18 kV18 dc18 pm18 cd18 ct18 oc19 kV19 dc19 pm19 cd19 ct19 : Value}
    {odc_u_law_refused : Option Addr} {vsc_u_law_refused : Array Value} {slc_u_law_refused : Array (Option Value)} {file_u_law_refused : Str} {tf_u_law_refused tg_u_law_refused tt_u_law_refused : Tok} {flags_u_law_refused text_u_law_refused : Int} {inF_u_law_refused : Bool}
    {nm_BadVoice qn_BadVoice : Str} {N_BadVoice : Addr} {bs_BadVoice bm_BadVoice su_BadVoice : List Value} {sn_BadVoice : List Str} {ab_BadVoice : Bool} {co_BadVoice : Option Bool} {dd_BadVoice : Option Addr} {k0_BadVoice k1_BadVoice k2_BadVoice k3_BadVoice k5_BadVoice : Option Value}
    {tk_MOST_ENTRY tk_MOST_LENGTH tk_MOST_ONSETS : Tok}
    (aC_BadTime : PySem.W.nsIn K mainGlobals "BadTime" = some (some (.ref C_BadTime)))
    (sb_BadTime : PySem.W.subIn K (.ref C_BadTime) (.type "BaseException") = some true)
    (ty_BadTime : PySem.W.typeIn K (.ref C_BadTime) = some (.type "type"))
    (aC_BadVoice : PySem.W.nsIn K mainGlobals "BadVoice" = some (some (.ref C_BadVoice)))
    (sb_BadVoice : PySem.W.subIn K (.ref C_BadVoice) (.type "BaseException") = some true)
    (ty_BadVoice : PySem.W.typeIn K (.ref C_BadVoice) = some (.type "type"))
    (aC_RhythmError : PySem.W.nsIn K mainGlobals "RhythmError" = some (some (.ref C_RhythmError)))
    (sb_RhythmError : PySem.W.subIn K (.ref C_RhythmError) (.type "BaseException") = some true)
    (ty_RhythmError : PySem.W.typeIn K (.ref C_RhythmError) = some (.type "type"))
    (eg_BadTime : PySem.W.findIn K (.ref C_BadTime) "__getattribute__" = some (some (.builtin "BaseException.__getattribute__")))
    (ek_BadTime : PySem.W.findIn K (.ref C_BadTime) "__getattr__" = some none)
    (ed_BadTime : PySem.W.hasDictIn K C_BadTime = true)
    (ea_BadTime : PySem.W.findIn K (.ref C_BadTime) "__class__" = some (some (.builtin "object.__class__")))
    (em_BadTime : PySem.W.mroIn K C_BadTime (.type "object") = some true)
    (eg_BadVoice : PySem.W.findIn K (.ref C_BadVoice) "__getattribute__" = some (some (.builtin "BaseException.__getattribute__")))
    (ek_BadVoice : PySem.W.findIn K (.ref C_BadVoice) "__getattr__" = some none)
    (ed_BadVoice : PySem.W.hasDictIn K C_BadVoice = true)
    (ea_BadVoice : PySem.W.findIn K (.ref C_BadVoice) "__class__" = some (some (.builtin "object.__class__")))
    (em_BadVoice : PySem.W.mroIn K C_BadVoice (.type "object") = some true)
    (jn : PySem.W.specialIn K (.builtin "object.__class__") "__get__" = some (some (.builtin "getset_descriptor.__get__")))
    (jt : PySem.W.takesIn K (.builtin "object.__class__") = some true)
    (xi_BadTime : PySem.W.isClsIn K C_BadTime = true)
    (xs_BadTime : PySem.W.subIn K (.ref C_BadTime) (.ref C_BadTime) = some true)
    (xi_BadVoice : PySem.W.isClsIn K C_BadVoice = true)
    (xs_BadVoice : PySem.W.subIn K (.ref C_BadVoice) (.ref C_BadVoice) = some true)
    (xi_RhythmError : PySem.W.isClsIn K C_RhythmError = true)
    (xs_RhythmError : PySem.W.subIn K (.ref C_RhythmError) (.ref C_RhythmError) = some true)
    (ed_RhythmError : PySem.W.hasDictIn K C_RhythmError = true)
    (xb_BadTime_BadVoice : PySem.W.subIn K (.ref C_BadVoice) (.ref C_BadTime) = some false)
    (xb_BadVoice_BadTime : PySem.W.subIn K (.ref C_BadTime) (.ref C_BadVoice) = some false)
    (xb_RhythmError_BadTime : PySem.W.subIn K (.ref C_BadTime) (.ref C_RhythmError) = some true)
    (xb_RhythmError_BadVoice : PySem.W.subIn K (.ref C_BadVoice) (.ref C_RhythmError) = some true)
    (q_BadTime : PySem.W.excIn K C_BadTime [.type "ValueError", .type "Exception", .type "BaseException", .type "object"] "ValueError.__new__" = true)
    (kc_BadTime : PySem.W.keepIn K (.ref C_BadTime) = true)
    (z_all : PySem.W.nsIn K mainGlobals "all" = some none)
    (z_bool : PySem.W.nsIn K mainGlobals "bool" = some none)
    (z_enumerate : PySem.W.nsIn K mainGlobals "enumerate" = some none)
    (z_int : PySem.W.nsIn K mainGlobals "int" = some none)
    (z_isinstance : PySem.W.nsIn K mainGlobals "isinstance" = some none)
    (z_len : PySem.W.nsIn K mainGlobals "len" = some none)
    (z_list : PySem.W.nsIn K mainGlobals "list" = some none)
    (z_max : PySem.W.nsIn K mainGlobals "max" = some none)
    (z_range : PySem.W.nsIn K mainGlobals "range" = some none)
    (z_set : PySem.W.nsIn K mainGlobals "set" = some none)
    (z_sorted : PySem.W.nsIn K mainGlobals "sorted" = some none)
    (z_tuple : PySem.W.nsIn K mainGlobals "tuple" = some none)
    (z_zip : PySem.W.nsIn K mainGlobals "zip" = some none)
    (u_gcd : PySem.W.nsIn K mainGlobals "gcd" = some (some (.builtin "math.gcd")))
    (g_MOST_ENTRY : PySem.W.nsIn K mainGlobals "MOST_ENTRY" = some (some (.int 1000000000000000 tk_MOST_ENTRY)))
    (g_MOST_LENGTH : PySem.W.nsIn K mainGlobals "MOST_LENGTH" = some (some (.int 1000000000000 tk_MOST_LENGTH)))
    (g_MOST_ONSETS : PySem.W.nsIn K mainGlobals "MOST_ONSETS" = some (some (.int 24 tk_MOST_ONSETS)))
    (lC_BadVoice : K.lookup C_BadVoice = some (excClassObj nm_BadVoice qn_BadVoice C_BadVoice N_BadVoice bs_BadVoice bm_BadVoice true sn_BadVoice su_BadVoice ab_BadVoice co_BadVoice dd_BadVoice k0_BadVoice k1_BadVoice k2_BadVoice k3_BadVoice k5_BadVoice "ValueError.__new__"))
    (vC_BadVoice : PySem.HandSPX.refsVE bm_BadVoice = true)
    (aC2_BadVoice : PySem.W.findIn K (.ref C_BadVoice) "__setattr__" = some (some (.builtin "object.__setattr__")))
    (kC_BadVoice : PySem.W.keepIn K (.ref C_BadVoice) = true)
    (iC_BadVoice : PySem.W.findIn K (.ref C_BadVoice) "__init__" = some (some (.ref f19)))
    (tC_BadVoice : PySem.W.typeIn K (.ref f19) = some (.type "function"))
    (nC_BadVoice : PySem.W.findIn K (.ref C_BadVoice) "index" = some none)
    (bs_RhythmError : PySem.W.specialIn K (.ref C_RhythmError) "__getattribute__" = some (some (.builtin "type.__getattribute__")))
    (br_RhythmError : PySem.W.readsIn K C_RhythmError (.type "type") = true)
    (bf_RhythmError : PySem.W.findCls K (.ref C_RhythmError) (.type "type") "__init__" = some (.val (.builtin "ValueError.__init__")))
    (a1 : PySem.W.nsIn K mainGlobals "is_number" = some (some (.ref f1)))
    (l1 : K.lookup f1 = some ⟨oc1, od1, .func (PySem.W.fnOf "is_number" "is_number" (defArgs s_is_number) (defBody s_is_number) (defScope s_is_number) .none kV1 dc1 pm1 an1 cd1 ct1), sl1⟩)
    (c1 : PySem.W.codeIn K cd1 "is_number" = true)
    (k1 : PySem.W.keepIn K (.ref f1) = true)
    (a2 : PySem.W.nsIn K mainGlobals "_is_entry" = some (some (.ref f2)))
    (l2 : K.lookup f2 = some ⟨oc2, od2, .func (PySem.W.fnOf "_is_entry" "_is_entry" (defArgs s_u_is_entry) (defBody s_u_is_entry) (defScope s_u_is_entry) .none kV2 dc2 pm2 an2 cd2 ct2), sl2⟩)
    (c2 : PySem.W.codeIn K cd2 "_is_entry" = true)
    (k2 : PySem.W.keepIn K (.ref f2) = true)
    (a3 : PySem.W.nsIn K mainGlobals "_is_voice" = some (some (.ref f3)))
    (l3 : K.lookup f3 = some ⟨oc3, od3, .func (PySem.W.fnOf "_is_voice" "_is_voice" (defArgs s_u_is_voice) (defBody s_u_is_voice) (defScope s_u_is_voice) .none kV3 dc3 pm3 an3 cd3 ct3), sl3⟩)
    (c3 : PySem.W.codeIn K cd3 "_is_voice" = true)
    (k3 : PySem.W.keepIn K (.ref f3) = true)
    (a4 : PySem.W.nsIn K mainGlobals "_check_time" = some (some (.ref f4)))
    (l4 : K.lookup f4 = some ⟨oc4, od4, .func (PySem.W.fnOf "_check_time" "_check_time" (defArgs s_u_check_time) (defBody s_u_check_time) (defScope s_u_check_time) .none kV4 dc4 pm4 an4 cd4 ct4), sl4⟩)
    (c4 : PySem.W.codeIn K cd4 "_check_time" = true)
    (k4 : PySem.W.keepIn K (.ref f4) = true)
    (a5 : PySem.W.nsIn K mainGlobals "clashes" = some (some (.ref f5)))
    (l5 : K.lookup f5 = some ⟨oc5, od5, .func (PySem.W.fnOf "clashes" "clashes" (defArgs s_clashes) (defBody s_clashes) (defScope s_clashes) .none kV5 dc5 pm5 an5 cd5 ct5), sl5⟩)
    (c5 : PySem.W.codeIn K cd5 "clashes" = true)
    (k5 : PySem.W.keepIn K (.ref f5) = true)
    (a6 : PySem.W.nsIn K mainGlobals "next_clear" = some (some (.ref f6)))
    (l6 : K.lookup f6 = some ⟨oc6, od6, .func (PySem.W.fnOf "next_clear" "next_clear" (defArgs s_next_clear) (defBody s_next_clear) (defScope s_next_clear) .none kV6 dc6 pm6 an6 cd6 ct6), sl6⟩)
    (c6 : PySem.W.codeIn K cd6 "next_clear" = true)
    (k6 : PySem.W.keepIn K (.ref f6) = true)
    (a7 : PySem.W.nsIn K mainGlobals "_law_begin" = some (some (.ref f7)))
    (l7 : K.lookup f7 = some ⟨oc7, od7, .func (PySem.W.fnOf "_law_begin" "_law_begin" (defArgs s_u_law_begin) (defBody s_u_law_begin) (defScope s_u_law_begin) .none kV7 dc7 pm7 an7 cd7 ct7), sl7⟩)
    (c7 : PySem.W.codeIn K cd7 "_law_begin" = true)
    (k7 : PySem.W.keepIn K (.ref f7) = true)
    (a8 : PySem.W.nsIn K mainGlobals "_law_draw" = some (some (.ref f8)))
    (l8 : K.lookup f8 = some ⟨oc8, od8, .func (PySem.W.fnOf "_law_draw" "_law_draw" (defArgs s_u_law_draw) (defBody s_u_law_draw) (defScope s_u_law_draw) .none kV8 dc8 pm8 an8 cd8 ct8), sl8⟩)
    (c8 : PySem.W.codeIn K cd8 "_law_draw" = true)
    (k8 : PySem.W.keepIn K (.ref f8) = true)
    (a9 : PySem.W.nsIn K mainGlobals "_law_pick" = some (some (.ref f9)))
    (l9 : K.lookup f9 = some ⟨oc9, od9, .func (PySem.W.fnOf "_law_pick" "_law_pick" (defArgs s_u_law_pick) (defBody s_u_law_pick) (defScope s_u_law_pick) .none kV9 dc9 pm9 an9 cd9 ct9), sl9⟩)
    (c9 : PySem.W.codeIn K cd9 "_law_pick" = true)
    (k9 : PySem.W.keepIn K (.ref f9) = true)
    (a10 : PySem.W.nsIn K mainGlobals "_law_gcd" = some (some (.ref f10)))
    (l10 : K.lookup f10 = some ⟨oc10, od10, .func (PySem.W.fnOf "_law_gcd" "_law_gcd" (defArgs s_u_law_gcd) (defBody s_u_law_gcd) (defScope s_u_law_gcd) .none kV10 dc10 pm10 an10 cd10 ct10), sl10⟩)
    (c10 : PySem.W.codeIn K cd10 "_law_gcd" = true)
    (k10 : PySem.W.keepIn K (.ref f10) = true)
    (a11 : PySem.W.nsIn K mainGlobals "_law_span" = some (some (.ref f11)))
    (l11 : K.lookup f11 = some ⟨oc11, od11, .func (PySem.W.fnOf "_law_span" "_law_span" (defArgs s_u_law_span) (defBody s_u_law_span) (defScope s_u_law_span) .none kV11 dc11 pm11 an11 cd11 ct11), sl11⟩)
    (c11 : PySem.W.codeIn K cd11 "_law_span" = true)
    (k11 : PySem.W.keepIn K (.ref f11) = true)
    (a12 : PySem.W.nsIn K mainGlobals "_law_voice" = some (some (.ref f12)))
    (l12 : K.lookup f12 = some ⟨oc12, od12, .func (PySem.W.fnOf "_law_voice" "_law_voice" (defArgs s_u_law_voice) (defBody s_u_law_voice) (defScope s_u_law_voice) .none kV12 dc12 pm12 an12 cd12 ct12), sl12⟩)
    (c12 : PySem.W.codeIn K cd12 "_law_voice" = true)
    (k12 : PySem.W.keepIn K (.ref f12) = true)
    (a13 : PySem.W.nsIn K mainGlobals "_law_sounding" = some (some (.ref f13)))
    (l13 : K.lookup f13 = some ⟨oc13, od13, .func (PySem.W.fnOf "_law_sounding" "_law_sounding" (defArgs s_u_law_sounding) (defBody s_u_law_sounding) (defScope s_u_law_sounding) .none kV13 dc13 pm13 an13 cd13 ct13), sl13⟩)
    (c13 : PySem.W.codeIn K cd13 "_law_sounding" = true)
    (k13 : PySem.W.keepIn K (.ref f13) = true)
    (a14 : PySem.W.nsIn K mainGlobals "_law_meet" = some (some (.ref f14)))
    (l14 : K.lookup f14 = some ⟨oc14, od14, .func (PySem.W.fnOf "_law_meet" "_law_meet" (defArgs s_u_law_meet) (defBody s_u_law_meet) (defScope s_u_law_meet) .none kV14 dc14 pm14 an14 cd14 ct14), sl14⟩)
    (c14 : PySem.W.codeIn K cd14 "_law_meet" = true)
    (k14 : PySem.W.keepIn K (.ref f14) = true)
    (a15 : PySem.W.nsIn K mainGlobals "_law_caught" = some (some (.ref f15)))
    (l15 : K.lookup f15 = some ⟨oc15, od15, .func (PySem.W.fnOf "_law_caught" "_law_caught" (defArgs s_u_law_caught) (defBody s_u_law_caught) (defScope s_u_law_caught) .none kV15 dc15 pm15 an15 cd15 ct15), sl15⟩)
    (c15 : PySem.W.codeIn K cd15 "_law_caught" = true)
    (k15 : PySem.W.keepIn K (.ref f15) = true)
    (a16 : PySem.W.nsIn K mainGlobals "_law_refused" = some (some (.ref f16)))
    (l16 : K.lookup f16 = some ⟨oc16, od16, .func (PySem.W.fnOf "_law_refused" "_law_refused" (defArgs s_u_law_refused) (defBody s_u_law_refused) (defScope s_u_law_refused) .none kV16 dc16 pm16 an16 (.ref ct_u_law_refused) ct16), sl16⟩)
    (c16 : PySem.W.codeIn K (.ref ct_u_law_refused) "_law_refused" = true)
    (lct_u_law_refused : K.lookup ct_u_law_refused = some ⟨.type "code", odc_u_law_refused, .fields vsc_u_law_refused, slc_u_law_refused⟩)
    (v11_u_law_refused : vsc_u_law_refused[11]? = some (.ref pt_u_law_refused))
    (w11_u_law_refused : vsc_u_law_refused.getD 11 .none = .ref pt_u_law_refused)
    (w18_u_law_refused : vsc_u_law_refused.getD 18 .none = .str file_u_law_refused tf_u_law_refused)
    (w7_u_law_refused : vsc_u_law_refused.getD 7 .none = .int flags_u_law_refused tg_u_law_refused)
    (w9_u_law_refused : vsc_u_law_refused.getD 9 .none = .bool inF_u_law_refused)
    (w10_u_law_refused : vsc_u_law_refused.getD 10 .none = .int text_u_law_refused tt_u_law_refused)
    (nep_u_law_refused : ct_u_law_refused ≠ pt_u_law_refused)
    (noK_u_law_refused : K.lookup pt_u_law_refused = none)
    (k16 : PySem.W.keepIn K (.ref f16) = true)
    (a17 : PySem.W.nsIn K mainGlobals "_law_great_right" = some (some (.ref f17)))
    (l17 : K.lookup f17 = some ⟨oc17, od17, .func (PySem.W.fnOf "_law_great_right" "_law_great_right" (defArgs s_u_law_great_right) (defBody s_u_law_great_right) (defScope s_u_law_great_right) .none kV17 dc17 pm17 an17 cd17 ct17), sl17⟩)
    (c17 : PySem.W.codeIn K cd17 "_law_great_right" = true)
    (k17 : PySem.W.keepIn K (.ref f17) = true)
    (a18 : PySem.W.nsIn K mainGlobals "law" = some (some (.ref f18)))
    (l18 : K.lookup f18 = some ⟨oc18, od18, .func (PySem.W.fnOf "law" "law" (defArgs s_law) (defBody s_law) (defScope s_law) .none kV18 dc18 pm18 an18 cd18 ct18), sl18⟩)
    (c18 : PySem.W.codeIn K cd18 "law" = true)
    (k18 : PySem.W.keepIn K (.ref f18) = true)
    (l19 : K.lookup f19 = some ⟨oc19, od19, .func (PySem.W.fnOf "__init__" "BadVoice.__init__" (defArgs s_x_BadVoice) (defBody s_x_BadVoice) (defScope s_x_BadVoice) .none kV19 dc19 pm19 an19 cd19 ct19), sl19⟩)
    (c19 : PySem.W.codeIn K cd19 "BadVoice.__init__" = true)
    (k19 : PySem.W.keepIn K (.ref f19) = true)
    : ∃ (fd : FuncData) (fM : FnD) (L : List Lm), AllTrueL L fM ∧ (∀ (s : Shared) (v : Value), BindsTo s fd ⟨[v], []⟩ [("_law_script", v)]) ∧ (L.map (·.p)).Nodup ∧ (∀ y ∈ L, h.get? y.p = some { cls := .none, data := .fields #[] } ∧ K.lookup y.p = none ∧ PySem.W.CodeHd h y.c y.p) ∧ ∀ base : Heap, K.In base → base.Ns mainGlobals mg → (∀ y ∈ L, LamX.TabB base mg y.c y.p) → FnG l.prog w K mg base 9 fa fd ["_law_script"] fM := by
  have e := hfa.symm.trans (PySem.W.mg_of X G a18)
  cases e
  have F1 := fun_mk (st := s_is_number) l1 c1 k1
  have b1 := F1.binds (ps := ["thing"]) fun _ _ _ _ _ _ us hl => match us, hl with | [_], _ => rfl
  have F2 := fun_mk (st := s_u_is_entry) l2 c2 k2
  have b2 := F2.binds (ps := ["thing"]) fun _ _ _ _ _ _ us hl => match us, hl with | [_], _ => rfl
  have F3 := fun_mk (st := s_u_is_voice) l3 c3 k3
  have b3 := F3.binds (ps := ["thing"]) fun _ _ _ _ _ _ us hl => match us, hl with | [_], _ => rfl
  have F4 := fun_mk (st := s_u_check_time) l4 c4 k4
  have b4 := F4.binds (ps := ["time"]) fun _ _ _ _ _ _ us hl => match us, hl with | [_], _ => rfl
  have F5 := fun_mk (st := s_clashes) l5 c5 k5
  have b5 := F5.binds (ps := ["one", "other"]) fun _ _ _ _ _ _ us hl => match us, hl with | [_, _], _ => rfl
  have F6 := fun_mk (st := s_next_clear) l6 c6 k6
  have b6 := F6.binds (ps := ["one", "other", "delay"]) fun _ _ _ _ _ _ us hl => match us, hl with | [_, _, _], _ => rfl
  have F7 := fun_mk (st := s_u_law_begin) l7 c7 k7
  have b7 := F7.binds (ps := ["_law_cell", "_law_turn"]) fun _ _ _ _ _ _ us hl => match us, hl with | [_, _], _ => rfl
  have F8 := fun_mk (st := s_u_law_draw) l8 c8 k8
  have b8 := F8.binds (ps := ["_law_state", "_law_size"]) fun _ _ _ _ _ _ us hl => match us, hl with | [_, _], _ => rfl
  have F9 := fun_mk (st := s_u_law_pick) l9 c9 k9
  have b9 := F9.binds (ps := ["_law_state", "_law_items"]) fun _ _ _ _ _ _ us hl => match us, hl with | [_, _], _ => rfl
  have F10 := fun_mk (st := s_u_law_gcd) l10 c10 k10
  have b10 := F10.binds (ps := ["_law_near", "_law_away"]) fun _ _ _ _ _ _ us hl => match us, hl with | [_, _], _ => rfl
  have F11 := fun_mk (st := s_u_law_span) l11 c11 k11
  have b11 := F11.binds (ps := ["_law_voices"]) fun _ _ _ _ _ _ us hl => match us, hl with | [_], _ => rfl
  have F12 := fun_mk (st := s_u_law_voice) l12 c12 k12
  have b12 := F12.binds (ps := ["_law_state", "_law_lengths"]) fun _ _ _ _ _ _ us hl => match us, hl with | [_, _], _ => rfl
  have F13 := fun_mk (st := s_u_law_sounding) l13 c13 k13
  have b13 := F13.binds (ps := ["_law_voices", "_law_time"]) fun _ _ _ _ _ _ us hl => match us, hl with | [_, _], _ => rfl
  have F14 := fun_mk (st := s_u_law_meet) l14 c14 k14
  have b14 := F14.binds (ps := ["_law_first", "_law_second", "_law_wait"]) fun _ _ _ _ _ _ us hl => match us, hl with | [_, _, _], _ => rfl
  have F15 := fun_mk (st := s_u_law_caught) l15 c15 k15
  have b15 := F15.binds (ps := ["_law_work"]) fun _ _ _ _ _ _ us hl => match us, hl with | [_], _ => rfl
  have F16 := fun_mk (st := s_u_law_refused) l16 c16 k16
  have b16 := F16.binds (ps := ["_law_state", "_law_first", "_law_second"]) fun _ _ _ _ _ _ us hl => match us, hl with | [_, _, _], _ => rfl
  have F17 := fun_mk (st := s_u_law_great_right) l17 c17 k17
  have b17 := F17.binds (ps := ["_law_state"]) fun _ _ _ _ _ _ us hl => match us, hl with | [_], _ => rfl
  have F18 := fun_mk (st := s_law) l18 c18 k18
  have b18 := F18.binds (ps := ["_law_script"]) fun _ _ _ _ _ _ us hl => match us, hl with | [_], _ => rfl
  have F19 := fun_mk (st := s_x_BadVoice) l19 c19 k19
  have b19 := F19.binds (ps := ["self", "index"]) fun _ _ _ _ _ _ us hl => match us, hl with | [_, _], _ => rfl
  have T : Tx K mg { ct_u_law_refused := ct_u_law_refused, pt_u_law_refused := pt_u_law_refused, fx_BadVoice := f19, dx_BadVoice := PySem.W.fnOf "__init__" "BadVoice.__init__" (defArgs s_x_BadVoice) (defBody s_x_BadVoice) (defScope s_x_BadVoice) .none kV19 dc19 pm19 an19 cd19 ct19, f_is_number := f1, f_u_is_entry := f2, f_u_is_voice := f3, f_u_check_time := f4, f_clashes := f5, f_next_clear := f6, f_u_law_begin := f7, f_u_law_draw := f8, f_u_law_pick := f9, f_u_law_gcd := f10, f_u_law_span := f11, f_u_law_voice := f12, f_u_law_sounding := f13, f_u_law_meet := f14, f_u_law_caught := f15, f_u_law_refused := f16, f_u_law_great_right := f17, f_law := fa, c_BadTime := C_BadTime, c_BadVoice := C_BadVoice, c_RhythmError := C_RhythmError, d_is_number := PySem.W.fnOf "is_number" "is_number" (defArgs s_is_number) (defBody s_is_number) (defScope s_is_number) .none kV1 dc1 pm1 an1 cd1 ct1, d_u_is_entry := PySem.W.fnOf "_is_entry" "_is_entry" (defArgs s_u_is_entry) (defBody s_u_is_entry) (defScope s_u_is_entry) .none kV2 dc2 pm2 an2 cd2 ct2, d_u_is_voice := PySem.W.fnOf "_is_voice" "_is_voice" (defArgs s_u_is_voice) (defBody s_u_is_voice) (defScope s_u_is_voice) .none kV3 dc3 pm3 an3 cd3 ct3, d_u_check_time := PySem.W.fnOf "_check_time" "_check_time" (defArgs s_u_check_time) (defBody s_u_check_time) (defScope s_u_check_time) .none kV4 dc4 pm4 an4 cd4 ct4, d_clashes := PySem.W.fnOf "clashes" "clashes" (defArgs s_clashes) (defBody s_clashes) (defScope s_clashes) .none kV5 dc5 pm5 an5 cd5 ct5, d_next_clear := PySem.W.fnOf "next_clear" "next_clear" (defArgs s_next_clear) (defBody s_next_clear) (defScope s_next_clear) .none kV6 dc6 pm6 an6 cd6 ct6, d_u_law_begin := PySem.W.fnOf "_law_begin" "_law_begin" (defArgs s_u_law_begin) (defBody s_u_law_begin) (defScope s_u_law_begin) .none kV7 dc7 pm7 an7 cd7 ct7, d_u_law_draw := PySem.W.fnOf "_law_draw" "_law_draw" (defArgs s_u_law_draw) (defBody s_u_law_draw) (defScope s_u_law_draw) .none kV8 dc8 pm8 an8 cd8 ct8, d_u_law_pick := PySem.W.fnOf "_law_pick" "_law_pick" (defArgs s_u_law_pick) (defBody s_u_law_pick) (defScope s_u_law_pick) .none kV9 dc9 pm9 an9 cd9 ct9, d_u_law_gcd := PySem.W.fnOf "_law_gcd" "_law_gcd" (defArgs s_u_law_gcd) (defBody s_u_law_gcd) (defScope s_u_law_gcd) .none kV10 dc10 pm10 an10 cd10 ct10, d_u_law_span := PySem.W.fnOf "_law_span" "_law_span" (defArgs s_u_law_span) (defBody s_u_law_span) (defScope s_u_law_span) .none kV11 dc11 pm11 an11 cd11 ct11, d_u_law_voice := PySem.W.fnOf "_law_voice" "_law_voice" (defArgs s_u_law_voice) (defBody s_u_law_voice) (defScope s_u_law_voice) .none kV12 dc12 pm12 an12 cd12 ct12, d_u_law_sounding := PySem.W.fnOf "_law_sounding" "_law_sounding" (defArgs s_u_law_sounding) (defBody s_u_law_sounding) (defScope s_u_law_sounding) .none kV13 dc13 pm13 an13 cd13 ct13, d_u_law_meet := PySem.W.fnOf "_law_meet" "_law_meet" (defArgs s_u_law_meet) (defBody s_u_law_meet) (defScope s_u_law_meet) .none kV14 dc14 pm14 an14 cd14 ct14, d_u_law_caught := PySem.W.fnOf "_law_caught" "_law_caught" (defArgs s_u_law_caught) (defBody s_u_law_caught) (defScope s_u_law_caught) .none kV15 dc15 pm15 an15 cd15 ct15, d_u_law_refused := PySem.W.fnOf "_law_refused" "_law_refused" (defArgs s_u_law_refused) (defBody s_u_law_refused) (defScope s_u_law_refused) .none kV16 dc16 pm16 an16 (.ref ct_u_law_refused) ct16, d_u_law_great_right := PySem.W.fnOf "_law_great_right" "_law_great_right" (defArgs s_u_law_great_right) (defBody s_u_law_great_right) (defScope s_u_law_great_right) .none kV17 dc17 pm17 an17 cd17 ct17, d_law := PySem.W.fnOf "law" "law" (defArgs s_law) (defBody s_law) (defScope s_law) .none kV18 dc18 pm18 an18 cd18 ct18 } := {
    F_is_number := F1
    b_is_number := b1
    m_is_number := PySem.W.mg_of X G a1
    F_u_is_entry := F2
    b_u_is_entry := b2
    m_u_is_entry := PySem.W.mg_of X G a2
    F_u_is_voice := F3
    b_u_is_voice := b3
    m_u_is_voice := PySem.W.mg_of X G a3
    F_u_check_time := F4
    b_u_check_time := b4
    m_u_check_time := PySem.W.mg_of X G a4
    F_clashes := F5
    b_clashes := b5
    m_clashes := PySem.W.mg_of X G a5
    F_next_clear := F6
    b_next_clear := b6
    m_next_clear := PySem.W.mg_of X G a6
    F_u_law_begin := F7
    b_u_law_begin := b7
    m_u_law_begin := PySem.W.mg_of X G a7
    F_u_law_draw := F8
    b_u_law_draw := b8
    m_u_law_draw := PySem.W.mg_of X G a8
    F_u_law_pick := F9
    b_u_law_pick := b9
    m_u_law_pick := PySem.W.mg_of X G a9
    F_u_law_gcd := F10
    b_u_law_gcd := b10
    m_u_law_gcd := PySem.W.mg_of X G a10
    F_u_law_span := F11
    b_u_law_span := b11
    m_u_law_span := PySem.W.mg_of X G a11
    F_u_law_voice := F12
    b_u_law_voice := b12
    m_u_law_voice := PySem.W.mg_of X G a12
    F_u_law_sounding := F13
    b_u_law_sounding := b13
    m_u_law_sounding := PySem.W.mg_of X G a13
    F_u_law_meet := F14
    b_u_law_meet := b14
    m_u_law_meet := PySem.W.mg_of X G a14
    F_u_law_caught := F15
    b_u_law_caught := b15
    m_u_law_caught := PySem.W.mg_of X G a15
    F_u_law_refused := F16
    b_u_law_refused := b16
    m_u_law_refused := PySem.W.mg_of X G a16
    F_u_law_great_right := F17
    b_u_law_great_right := b17
    m_u_law_great_right := PySem.W.mg_of X G a17
    F_law := F18
    b_law := b18
    m_law := PySem.W.mg_of X G a18
    kb_clashes_0_other_one := kb_of (fun s us ws l1 l2 => match us, ws, l1, l2 with | [], [_, _], _, _ => .of_eq rfl) (by decide) rfl
    kb_next_clear_0_delay_other_one := kb_of (fun s us ws l1 l2 => match us, ws, l1, l2 with | [], [_, _, _], _, _ => .of_eq rfl) (by decide) rfl
    xi_BadTime := xi_BadTime
    xt_BadTime := ty_BadTime
    xi_BadVoice := xi_BadVoice
    xt_BadVoice := ty_BadVoice
    xi_RhythmError := xi_RhythmError
    xt_RhythmError := ty_RhythmError
    xm_BadTime := PySem.W.mg_of X G aC_BadTime
    xm_BadVoice := PySem.W.mg_of X G aC_BadVoice
    xm_RhythmError := PySem.W.mg_of X G aC_RhythmError
    oc_BadVoice := ⟨⟨_, _, _, _, _, _, _, _, _, _, _, _, _, _, _, lC_BadVoice, vC_BadVoice⟩, aC2_BadVoice, sb_BadVoice, ty_BadVoice, kC_BadVoice⟩
    xa_BadVoice := iC_BadVoice
    xt2_BadVoice := tC_BadVoice
    xb_BadVoice := b19
    xF_BadVoice := F19
    xn_BadVoice := nC_BadVoice
    bi_RhythmError := ⟨bs_RhythmError, br_RhythmError, bf_RhythmError⟩
    xf_BadVoice_index := ⟨⟨eg_BadVoice, ek_BadVoice, sb_BadVoice, ed_BadVoice⟩, nC_BadVoice⟩
    cd_u_law_refused := rfl
    ix_BadTime_BadTime := ⟨⟨eg_BadTime, ek_BadTime, sb_BadTime, ed_BadTime, ea_BadTime, jn, jt, em_BadTime⟩, kit1 xi_BadTime ty_BadTime xs_BadTime xs_BadTime⟩
    ix_BadTime_BadVoice := ⟨⟨eg_BadVoice, ek_BadVoice, sb_BadVoice, ed_BadVoice, ea_BadVoice, jn, jt, em_BadVoice⟩, kit1 xi_BadTime ty_BadTime xs_BadTime xb_BadTime_BadVoice⟩
    ix_BadVoice_BadTime := ⟨⟨eg_BadTime, ek_BadTime, sb_BadTime, ed_BadTime, ea_BadTime, jn, jt, em_BadTime⟩, kit1 xi_BadVoice ty_BadVoice xs_BadVoice xb_BadVoice_BadTime⟩
    ix_BadVoice_BadVoice := ⟨⟨eg_BadVoice, ek_BadVoice, sb_BadVoice, ed_BadVoice, ea_BadVoice, jn, jt, em_BadVoice⟩, kit1 xi_BadVoice ty_BadVoice xs_BadVoice xs_BadVoice⟩
    ix_RhythmError_BadTime := ⟨⟨eg_BadTime, ek_BadTime, sb_BadTime, ed_BadTime, ea_BadTime, jn, jt, em_BadTime⟩, kit1 xi_RhythmError ty_RhythmError xs_RhythmError xb_RhythmError_BadTime⟩
    xx_RhythmError_BadTime := exm1 sb_RhythmError ed_RhythmError ty_RhythmError xb_RhythmError_BadTime
    ix_RhythmError_BadVoice := ⟨⟨eg_BadVoice, ek_BadVoice, sb_BadVoice, ed_BadVoice, ea_BadVoice, jn, jt, em_BadVoice⟩, kit1 xi_RhythmError ty_RhythmError xs_RhythmError xb_RhythmError_BadVoice⟩
    xx_RhythmError_BadVoice := exm1 sb_RhythmError ed_RhythmError ty_RhythmError xb_RhythmError_BadVoice
    x_BadTime := ⟨q_BadTime, PySem.W.mg_of X G aC_BadTime, kc_BadTime, sb_BadTime, ty_BadTime⟩
    z_all := PySem.W.mg_none_of X G z_all
    z_bool := PySem.W.mg_none_of X G z_bool
    z_enumerate := PySem.W.mg_none_of X G z_enumerate
    z_int := PySem.W.mg_none_of X G z_int
    z_isinstance := PySem.W.mg_none_of X G z_isinstance
    z_len := PySem.W.mg_none_of X G z_len
    z_list := PySem.W.mg_none_of X G z_list
    z_max := PySem.W.mg_none_of X G z_max
    z_range := PySem.W.mg_none_of X G z_range
    z_set := PySem.W.mg_none_of X G z_set
    z_sorted := PySem.W.mg_none_of X G z_sorted
    z_tuple := PySem.W.mg_none_of X G z_tuple
    z_zip := PySem.W.mg_none_of X G z_zip
    u_gcd := PySem.W.mg_of X G u_gcd
    g_MOST_ENTRY := ⟨_, PySem.W.mg_of X G g_MOST_ENTRY⟩
    g_MOST_LENGTH := ⟨_, PySem.W.mg_of X G g_MOST_LENGTH⟩
    g_MOST_ONSETS := ⟨_, PySem.W.mg_of X G g_MOST_ONSETS⟩
  }
  have tab_u_law_refused := own "_law_refused" (by simp) _ (PySem.W.mg_of X G a16) ct_u_law_refused pt_u_law_refused _ _ _ _ _ _ l16 rfl rfl lct_u_law_refused v11_u_law_refused
  refine ⟨_, _, lmsA _, law_true _ (dis T), fun s v => .of_eq rfl, ?_, ?_, fun base _ _ TB => ok_law T TB⟩
  · exact by simp [lmsA]
  · exact (allL_cons ⟨tab_u_law_refused, noK_u_law_refused, ⟨_, vsc_u_law_refused, file_u_law_refused, tf_u_law_refused, flags_u_law_refused, tg_u_law_refused, inF_u_law_refused, text_u_law_refused, tt_u_law_refused, X _ _ lct_u_law_refused, rfl, rfl, v11_u_law_refused, w11_u_law_refused, w18_u_law_refused, w7_u_law_refused, w9_u_law_refused, w10_u_law_refused, nep_u_law_refused⟩⟩ allL_nil)

end My
open PySem L2 PyProof.Rows DV
set_option maxRecDepth 100000 in
set_option maxHeartbeats 0 in
theorem PySem.Challenge.cw_barscribe_k85_delays_that_clash_holds : PySem.Challenge.rw_barscribe_k85_delays_that_clash.Holds := by
  w_on; o_law; k_head; (case hw => w_witness2)
  k_fill
  refine DV.walk_topL (l := PySem.Challenge.rw_barscribe_k85_delays_that_clash) (k := 9) (x := "_law_script") (["_law_refused"] : List Str) rfl rfl ⟨⟨rfl, by decide, by decide⟩, rfl⟩ (by decide +kernel) (fun w h Y => PySem.W.km_in_of Y) ?F
  case F =>
    intro w mg fa h KX G hmg own
    refine' My.all_mk KX G hmg own ?aC_BadTime ?sb_BadTime ?ty_BadTime ?aC_BadVoice ?sb_BadVoice ?ty_BadVoice ?aC_RhythmError ?sb_RhythmError ?ty_RhythmError ?eg_BadTime ?ek_BadTime ?ed_BadTime ?ea_BadTime ?em_BadTime ?eg_BadVoice ?ek_BadVoice ?ed_BadVoice ?ea_BadVoice ?em_BadVoice ?jn ?jt ?xi_BadTime ?xs_BadTime ?xi_BadVoice ?xs_BadVoice ?xi_RhythmError ?xs_RhythmError ?ed_RhythmError ?xb_BadTime_BadVoice ?xb_BadVoice_BadTime ?xb_RhythmError_BadTime ?xb_RhythmError_BadVoice ?q_BadTime ?kc_BadTime ?z_all ?z_bool ?z_enumerate ?z_int ?z_isinstance ?z_len ?z_list ?z_max ?z_range ?z_set ?z_sorted ?z_tuple ?z_zip ?u_gcd ?g_MOST_ENTRY ?g_MOST_LENGTH ?g_MOST_ONSETS ?lC_BadVoice ?vC_BadVoice ?aC2_BadVoice ?kC_BadVoice ?iC_BadVoice ?tC_BadVoice ?nC_BadVoice ?bs_RhythmError ?br_RhythmError ?bf_RhythmError ?a1 ?l1 ?c1 ?k1 ?a2 ?l2 ?c2 ?k2 ?a3 ?l3 ?c3 ?k3 ?a4 ?l4 ?c4 ?k4 ?a5 ?l5 ?c5 ?k5 ?a6 ?l6 ?c6 ?k6 ?a7 ?l7 ?c7 ?k7 ?a8 ?l8 ?c8 ?k8 ?a9 ?l9 ?c9 ?k9 ?a10 ?l10 ?c10 ?k10 ?a11 ?l11 ?c11 ?k11 ?a12 ?l12 ?c12 ?k12 ?a13 ?l13 ?c13 ?k13 ?a14 ?l14 ?c14 ?k14 ?a15 ?l15 ?c15 ?k15 ?a16 ?l16 ?c16 ?lct_u_law_refused ?v11_u_law_refused ?w11_u_law_refused ?w18_u_law_refused ?w7_u_law_refused ?w9_u_law_refused ?w10_u_law_refused ?nep_u_law_refused ?noK_u_law_refused ?k16 ?a17 ?l17 ?c17 ?k17 ?a18 ?l18 ?c18 ?k18 ?l19 ?c19 ?k19
    (case aC_BadTime => k_is)
    (case sb_BadTime => k_is)
    (case ty_BadTime => k_is)
    (case aC_BadVoice => k_is)
    (case sb_BadVoice => k_is)
    (case ty_BadVoice => k_is)
    (case aC_RhythmError => k_is)
    (case sb_RhythmError => k_is)
    (case ty_RhythmError => k_is)
    (case eg_BadTime => k_is)
    (case ek_BadTime => k_is)
    (case ed_BadTime => k_is)
    (case ea_BadTime => k_is)
    (case em_BadTime => k_is)
    (case eg_BadVoice => k_is)
    (case ek_BadVoice => k_is)
    (case ed_BadVoice => k_is)
    (case ea_BadVoice => k_is)
    (case em_BadVoice => k_is)
    (case jn => k_is)
    (case jt => k_is)
    (case xi_BadTime => k_is)
    (case xs_BadTime => k_is)
    (case xi_BadVoice => k_is)
    (case xs_BadVoice => k_is)
    (case xi_RhythmError => k_is)
    (case xs_RhythmError => k_is)
    (case ed_RhythmError => k_is)
    (case xb_BadTime_BadVoice => k_is)
    (case xb_BadVoice_BadTime => k_is)
    (case xb_RhythmError_BadTime => k_is)
    (case xb_RhythmError_BadVoice => k_is)
    (case q_BadTime => k_exc)
    (case kc_BadTime => k_is)
    (case z_all => k_is)
    (case z_bool => k_is)
    (case z_enumerate => k_is)
    (case z_int => k_is)
    (case z_isinstance => k_is)
    (case z_len => k_is)
    (case z_list => k_is)
    (case z_max => k_is)
    (case z_range => k_is)
    (case z_set => k_is)
    (case z_sorted => k_is)
    (case z_tuple => k_is)
    (case z_zip => k_is)
    (case u_gcd => k_is)
    (case g_MOST_ENTRY => k_is)
    (case g_MOST_LENGTH => k_is)
    (case g_MOST_ONSETS => k_is)
    (case lC_BadVoice => k_is)
    (case vC_BadVoice => rfl)
    (case aC2_BadVoice => k_is)
    (case kC_BadVoice => k_is)
    (case iC_BadVoice => k_is)
    (case tC_BadVoice => k_is)
    (case nC_BadVoice => k_is)
    (case bs_RhythmError => k_is)
    (case br_RhythmError => k_is)
    (case bf_RhythmError => k_is)
    (case a1 => k_is)
    (case l1 => k_is)
    (case c1 => k_is)
    (case k1 => k_is)
    (case a2 => k_is)
    (case l2 => k_is)
    (case c2 => k_is)
    (case k2 => k_is)
    (case a3 => k_is)
    (case l3 => k_is)
    (case c3 => k_is)
    (case k3 => k_is)
    (case a4 => k_is)
    (case l4 => k_is)
    (case c4 => k_is)
    (case k4 => k_is)
    (case a5 => k_is)
    (case l5 => k_is)
    (case c5 => k_is)
    (case k5 => k_is)
    (case a6 => k_is)
    (case l6 => k_is)
    (case c6 => k_is)
    (case k6 => k_is)
    (case a7 => k_is)
    (case l7 => k_is)
    (case c7 => k_is)
    (case k7 => k_is)
    (case a8 => k_is)
    (case l8 => k_is)
    (case c8 => k_is)
    (case k8 => k_is)
    (case a9 => k_is)
    (case l9 => k_is)
    (case c9 => k_is)
    (case k9 => k_is)
    (case a10 => k_is)
    (case l10 => k_is)
    (case c10 => k_is)
    (case k10 => k_is)
    (case a11 => k_is)
    (case l11 => k_is)
    (case c11 => k_is)
    (case k11 => k_is)
    (case a12 => k_is)
    (case l12 => k_is)
    (case c12 => k_is)
    (case k12 => k_is)
    (case a13 => k_is)
    (case l13 => k_is)
    (case c13 => k_is)
    (case k13 => k_is)
    (case a14 => k_is)
    (case l14 => k_is)
    (case c14 => k_is)
    (case k14 => k_is)
    (case a15 => k_is)
    (case l15 => k_is)
    (case c15 => k_is)
    (case k15 => k_is)
    (case a16 => k_is)
    (case l16 => k_is)
    (case c16 => k_is)
    (case lct_u_law_refused => k_is)
    (case v11_u_law_refused => rfl)
    (case w11_u_law_refused => rfl)
    (case w18_u_law_refused => rfl)
    (case w7_u_law_refused => rfl)
    (case w9_u_law_refused => rfl)
    (case w10_u_law_refused => rfl)
    (case nep_u_law_refused => k_ne)
    (case noK_u_law_refused => first | kernel_rfl | rfl)
    (case k16 => k_is)
    (case a17 => k_is)
    (case l17 => k_is)
    (case c17 => k_is)
    (case k17 => k_is)
    (case a18 => k_is)
    (case l18 => k_is)
    (case c18 => k_is)
    (case k18 => k_is)
    (case l19 => k_is)
    (case c19 => k_is)
    (case k19 => k_is)
