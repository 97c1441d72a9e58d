import PyProof.Rows.All
import Wide.All
import OpenK.AllK
import Wide.FinOn
import HandS.ForMost
import HandS.ForExc
import HandS.AnyAll
import HandS.Deep
import HandS.Wide
import HandS.TupAny
import HandS.IsInst
import PyProof.DictKinds
import HandS.DictComp
import HandS.Lambda
import KE.SortData
import HandS.GenList
import HandS.Conv
import HandS.EndTab
import HandS.TupLe
import KE.GoesEnum
import KE.DataMinKey
import KE.KLam
import HandS.NamedTupSort
import PySem.Challenge.RW_takersrest_k47_totals
set_option Elab.async false
set_option linter.all false
set_option maxRecDepth 100000
set_option maxHeartbeats 1000000
namespace PD
open PySem PySem.Spec PyProof.Rows L2

/-! ### results -/
structure Ex where
  cls : Addr
  fs : List (Str × PyData)
inductive R (α : Type) where
  | ok (a : α)
  | exc (e : Ex)
  | bad
def R.bind {α β : Type} (x : R α) (f : α → R β) : R β := match x with
  | .ok a => f a
  | .exc e => .exc e
  | .bad => .bad
instance : Monad R where
  pure := .ok
  bind := R.bind
@[simp] theorem R.bind_ok {α β : Type} (a : α) (f : α → R β) : (R.ok a >>= f) = f a := rfl
@[simp] theorem R.bind_exc {α β : Type} (e : Ex) (f : α → R β) : ((R.exc e : R α) >>= f) = R.exc e := rfl
@[simp] theorem R.bind_bad {α β : Type} (f : α → R β) : ((R.bad : R α) >>= f) = R.bad := rfl
@[simp] theorem R.pure_eq {α : Type} (a : α) : (pure a : R α) = R.ok a := rfl

/-! ### heaps -/
/-- the table of a code object at P: what it tells are code objects that are known -/
def TabC (H : Hp) (P : Addr) : Prop := ∃ ps : Array Value, H P = some (.tbl ps) ∧ TriplesOk ps.toList ∧ ∀ (pos : Pos) (cv : Value), codeAmong pos ps.toList = some cv → ∃ c q, cv = .ref c ∧ H c = some (LamX.CodeO c q)
theorem TabC.mono {H H' : Hp} {b : Addr} (t : TabC H b) (e : ∀ ps, H b = some (.tbl ps) → H' b = some (.tbl ps)) (k : ∀ c q, H c = some (LamX.CodeO c q) → H' c = some (LamX.CodeO c q)) : TabC H' b := by
  obtain ⟨ps, h, z, q⟩ := t
  refine ⟨ps, e ps h, z, fun pos cv hc => ?_⟩
  obtain ⟨c, n, e1, e2⟩ := q pos cv hc
  exact ⟨c, n, e1, k c n e2⟩
theorem TabC.nil {H : Hp} {b : Addr} (h : H b = some (.tbl #[])) : TabC H b := ⟨#[], h, True.intro, fun pos cv hc => by
  have z : codeAmong pos [] = some cv := hc
  simp [codeAmong] at z⟩
theorem codeO_tbl {c : Addr} {q : Str} : ∀ ps, LamX.CodeO c q ≠ .tbl ps := fun ps => LamX.codeO_ne ps
/-- an object that is no code object and no table -/
def Plain (o : HO) : Prop := (∀ c q, o ≠ LamX.CodeO c q) ∧ ∀ ps, o ≠ .tbl ps
theorem plain_lst (l : List V) : Plain (.lst l) := ⟨fun _ _ h => (by unfold LamX.CodeO at h; cases h), fun _ h => (by cases h)⟩
structure Ext (H H' : Hp) : Prop where
  keep : ∀ b o, H b = some o → (∀ ps, o ≠ .tbl ps) → H' b = some o
  tab : ∀ b, TabC H b → TabC H' b
  al : ∀ b, H b ≠ none → H' b ≠ none
theorem Ext.refl (H : Hp) : Ext H H := ⟨fun _ _ h _ => h, fun _ h => h, fun _ h => h⟩
theorem Ext.trans {H H1 H2 : Hp} (a : Ext H H1) (b : Ext H1 H2) : Ext H H2 :=
  ⟨fun c o h n => b.keep c o (a.keep c o h n) n, fun c h => b.tab c (a.tab c h), fun c h => b.al c (a.al c h)⟩
theorem Ext.new {H : Hp} {p : Addr} {o : HO} (h : H p = none) : Ext H (upd H p o) := by
  refine ⟨fun b x e n => ?_, fun b t => ?_, fun b e => ?_⟩
  · rw [upd_ne (ne_of_none e h)]; exact e
  · exact t.mono (fun ps e => by rw [upd_ne (ne_of_none e h)]; exact e) fun c q e => by rw [upd_ne (ne_of_none e h)]; exact e
  · by_cases hb : b = p
    · rw [hb, upd_same]; simp
    · rw [upd_ne hb]; exact e
theorem Ext.same {H H' : Hp} (s : Same H H') : Ext H H' :=
  ⟨fun b o e _ => s b o e, fun b t => t.mono (fun ps e => s b _ e) (fun c q e => s c _ e), fun b e => by
    cases q : H b with
    | none => exact absurd q e
    | some o => rw [s b o q]; simp⟩

/-- the heap without the addresses O -/
def hide (O : List Addr) (H : Hp) : Hp := fun b => if b ∈ O then none else H b
theorem hide_out {O : List Addr} {H : Hp} {b : Addr} (h : b ∉ O) : hide O H b = H b := by unfold hide; rw [if_neg h]
theorem hide_some {O : List Addr} {H : Hp} {b : Addr} {o : HO} (h : hide O H b = some o) : b ∉ O ∧ H b = some o := by
  unfold hide at h
  split at h
  · cases h
  · exact ⟨by assumption, h⟩
/-- what reading data leans on -/
def Sub (G G' : Hp) : Prop := ∀ b o, G b = some o → (∀ ps, o ≠ .tbl ps) → G' b = some o
theorem Sub.trans {G G1 G2 : Hp} (a : Sub G G1) (b : Sub G1 G2) : Sub G G2 := fun c o h n => b c o (a c o h n) n
theorem Sub.ext {H H' : Hp} (e : Ext H H') : Sub H H' := e.keep
theorem Sub.hide {O : List Addr} {H H' : Hp} (e : Sub H H') : Sub (hide O H) (PD.hide O H') := fun b o h n => by
  obtain ⟨h1, h2⟩ := hide_some h
  rw [hide_out h1]
  exact e b o h2 n
theorem Sub.less {O O' : List Addr} {H : Hp} (e : ∀ b ∈ O', b ∈ O) : Sub (PD.hide O H) (PD.hide O' H) := fun b o h n => by
  obtain ⟨h1, h2⟩ := hide_some h
  rw [hide_out fun m => h1 (e b m)]
  exact h2
theorem Sub.unhide {O : List Addr} {H : Hp} : Sub (PD.hide O H) H := fun b o h n => (hide_some h).2
theorem Sub.sqL {K : PySem.W.Frag} {G G' : Hp} {a : Addr} {xs : List V} (s : Sub G G') (h : SqL K G a xs) : SqL K G' a xs := by
  rcases h with (h | ⟨o, h⟩) | h
  · exact .inl (.inl (s _ _ h fun _ q => by cases q))
  · exact .inl (.inr ⟨o, s _ _ h fun _ q => by cases q⟩)
  · exact .inr h
theorem Sub.sqT {K : PySem.W.Frag} {G G' : Hp} {a : Addr} {xs : List V} (s : Sub G G') (h : SqT K G a xs) : SqT K G' a xs := by
  rcases h with (h | ⟨o, h⟩) | h
  · exact .inl (.inl (s _ _ h fun _ q => by cases q))
  · exact .inl (.inr ⟨o, s _ _ h fun _ q => by cases q⟩)
  · exact .inr h

/-! ### dicts whose keys are tuples of ints, every value True -/
abbrev ikt (P : Program) (w : World) : HeapKind P w (List Int) := tupleKind (intKind P w)
def dctO (a : Addr) (ep : Nat) (xs : List (List Int × Addr)) : HO := .ext fun h => (a == sysModules) = false ∧ xs.length ≤ sizeLine ∧ (xs.map (·.1)).Nodup ∧
  ∃ o es, h.get? a = some o ∧ o.ExactDict ∧ o.data = .dict es ep ∧ ∀ (P : Program) (w : World), es.toList = xs.map fun x => entryOfKey (ikt P w) (x.1, x.2, .bool true)
def dctE (x : List Int × Addr) : PyData × PyData := (.tuple (x.1.map .int), .bool true)
mutual
def nod : PyData → Bool
  | .none | .bool _ | .int _ | .str _ => true
  | .list xs | .tuple xs => nodAll xs
  | .dict _ => false
def nodAll : List PyData → Bool
  | [] => true
  | x :: xs => nod x && nodAll xs
end
mutual
theorem nod_of_lay : ∀ {d : PyData}, d.canLay0 = true → nod d = true
  | .none, _ => rfl
  | .bool _, _ => rfl
  | .int _, _ => rfl
  | .str _, _ => rfl
  | .list xs, h => nodAll_of_lay (xs := xs) h
  | .tuple xs, h => nodAll_of_lay (xs := xs) h
  | .dict _, h => by cases h
theorem nodAll_of_lay : ∀ {xs : List PyData}, PyData.canLayAll0 xs = true → nodAll xs = true
  | [], _ => rfl
  | x :: xs, h => by
    have h : (x.canLay0 && PyData.canLayAll0 xs) = true := h
    show (nod x && nodAll xs) = true
    rw [Bool.and_eq_true] at h ⊢
    exact ⟨nod_of_lay h.1, nodAll_of_lay h.2⟩
end
/-! ### values that read as data -/
mutual
inductive Rp (K : PySem.W.Frag) (G : Hp) : V → PyData → Prop
  | non : Rp K G .non .none
  | bl (b : Bool) : Rp K G (.bl b) (.bool b)
  | int (i : Int) : Rp K G (.int i) (.int i)
  | str (x : Str) : Rp K G (.str x) (.str x)
  | lst {a : Addr} {xs : List V} {ds : List PyData} : SqL K G a xs → ds.length ≤ sizeLine → RpAll K G xs ds → Rp K G (.ref a) (.list ds)
  | tup {a : Addr} {xs : List V} {ds : List PyData} : SqT K G a xs → ds.length ≤ sizeLine → RpAll K G xs ds → Rp K G (.ref a) (.tuple ds)
  | dct {a : Addr} {ep : Nat} {xs : List (List Int × Addr)} : G a = some (dctO a ep xs) → (∀ x ∈ xs, SqT K G x.2 (x.1.map V.int)) → Rp K G (.ref a) (.dict (xs.map dctE))
inductive RpAll (K : PySem.W.Frag) (G : Hp) : List V → List PyData → Prop
  | nil : RpAll K G [] []
  | cons {v : V} {vs : List V} {d : PyData} {ds : List PyData} : Rp K G v d → RpAll K G vs ds → RpAll K G (v :: vs) (d :: ds)
end
section
variable {K : PySem.W.Frag} {G G' : Hp}
mutual
theorem Rp.mono (s : Sub G G') : ∀ {d : PyData} {v : V}, Rp K G v d → Rp K G' v d
  | .none, _, h => by cases h; exact .non
  | .bool _, _, h => by cases h; exact .bl _
  | .int _, _, h => by cases h; exact .int _
  | .str _, _, h => by cases h; exact .str _
  | .list _, _, h => by
    cases h with
    | lst a z b => exact .lst (s.sqL a) z (RpAll.mono s b)
  | .tuple _, _, h => by
    cases h with
    | tup a z b => exact .tup (s.sqT a) z (RpAll.mono s b)
  | .dict _, _, h => by
    cases h with
    | dct a b => exact .dct (s _ _ a (fun _ q => by cases q)) fun x hx => s.sqT (b x hx)
theorem RpAll.mono (s : Sub G G') : ∀ {ds : List PyData} {vs : List V}, RpAll K G vs ds → RpAll K G' vs ds
  | [], _, h => by cases h; exact .nil
  | _ :: _, _, h => by
    cases h with
    | cons a b => exact .cons (Rp.mono s a) (RpAll.mono s b)
end
mutual
theorem Rp.dp : ∀ {d : PyData} {v : V}, Rp K G v d → nod d = true → Dp K G v d
  | .none, _, h, _ => by cases h; exact .non
  | .bool _, _, h, _ => by cases h; exact .bl _
  | .int _, _, h, _ => by cases h; exact .int _
  | .str _, _, h, _ => by cases h; exact .str _
  | .list _, _, h, n => by
    cases h with
    | lst a z b => exact .lst a (RpAll.dp b n)
  | .tuple _, _, h, n => by
    cases h with
    | tup a z b => exact .tup a (RpAll.dp b n)
  | .dict _, _, h, n => by cases n
theorem RpAll.dp : ∀ {ds : List PyData} {vs : List V}, RpAll K G vs ds → nodAll ds = true → DpAll K G vs ds
  | [], _, h, _ => by cases h; exact .nil
  | d :: ds, _, h, n => by
    have n : (nod d && nodAll ds) = true := n
    rw [Bool.and_eq_true] at n
    cases h with
    | cons a b => exact .cons (Rp.dp a n.1) (RpAll.dp b n.2)
end
mutual
theorem Rp.shaped : ∀ {d : PyData} {v : V}, Rp K G v d → True := fun _ => trivial
end
theorem RpAll.length : ∀ {vs : List V} {ds : List PyData}, RpAll K G vs ds → vs.length = ds.length
  | _, _, .nil => rfl
  | _, _, .cons _ t => by simp [RpAll.length t]
theorem RpAll.get : ∀ {vs : List V} {ds : List PyData} {i : Nat} {v : V}, RpAll K G vs ds → vs[i]? = some v → ∃ d, ds[i]? = some d ∧ Rp K G v d
  | _, _, _, _, .nil, h => by simp at h
  | _, _, 0, _, .cons r _, h => by simp at h; subst h; exact ⟨_, rfl, r⟩
  | _, _, i + 1, _, .cons _ t, h => by
    obtain ⟨d, h1, h2⟩ := RpAll.get (i := i) t (by simpa using h)
    exact ⟨d, by simpa using h1, h2⟩
theorem RpAll.get' : ∀ {vs : List V} {ds : List PyData} {i : Nat} {d : PyData}, RpAll K G vs ds → ds[i]? = some d → ∃ v, vs[i]? = some v ∧ Rp K G v d
  | _, _, _, _, .nil, h => by simp at h
  | _, _, 0, _, .cons r _, h => by simp at h; subst h; exact ⟨_, rfl, r⟩
  | _, _, i + 1, _, .cons _ t, h => by
    obtain ⟨d, h1, h2⟩ := RpAll.get' (i := i) t (by simpa using h)
    exact ⟨d, by simpa using h1, h2⟩
theorem RpAll.append : ∀ {vs ws : List V} {ds es : List PyData}, RpAll K G vs ds → RpAll K G ws es → RpAll K G (vs ++ ws) (ds ++ es)
  | _, _, _, _, .nil, q => q
  | _, _, _, _, .cons r t, q => .cons r (RpAll.append t q)
theorem RpAll.one {v : V} {d : PyData} (h : Rp K G v d) : RpAll K G [v] [d] := .cons h .nil
theorem RpAll.take : ∀ {vs : List V} {ds : List PyData} (n : Nat), RpAll K G vs ds → RpAll K G (vs.take n) (ds.take n)
  | _, _, 0, _ => .nil
  | _, _, _ + 1, .nil => .nil
  | _, _, n + 1, .cons r t => .cons r (RpAll.take n t)
theorem RpAll.drop : ∀ {vs : List V} {ds : List PyData} (n : Nat), RpAll K G vs ds → RpAll K G (vs.drop n) (ds.drop n)
  | _, _, 0, r => r
  | _, _, _ + 1, .nil => .nil
  | _, _, n + 1, .cons _ t => RpAll.drop n t
theorem RpAll.reverse : ∀ {vs : List V} {ds : List PyData}, RpAll K G vs ds → RpAll K G vs.reverse ds.reverse
  | _, _, .nil => .nil
  | _, _, .cons r t => by
    rw [List.reverse_cons, List.reverse_cons]
    exact (RpAll.reverse t).append (.one r)
theorem RpAll.set {v : V} {d : PyData} (r : Rp K G v d) : ∀ {vs : List V} {ds : List PyData} (i : Nat), RpAll K G vs ds → RpAll K G (vs.set i v) (ds.set i d)
  | _, _, _, .nil => .nil
  | _, _, 0, .cons _ t => .cons r t
  | _, _, i + 1, .cons q t => .cons q (RpAll.set r i t)
theorem RpAll.erase : ∀ {vs : List V} {ds : List PyData} (i : Nat), RpAll K G vs ds → RpAll K G (vs.eraseIdx i) (ds.eraseIdx i)
  | _, _, _, .nil => .nil
  | _, _, 0, .cons _ t => t
  | _, _, i + 1, .cons q t => .cons q (RpAll.erase i t)
end

/-! ### slots -/
inductive Sl where
  | d (x : PyData)
  | own (xs : List PyData)
  | dct (ks : List (List Int))
  | exn (a : Addr) (cls : Value) (dd : Option Addr) (e : Ex)
def Sl.Hold : Sl → Prop
  | .own _ => True
  | .dct _ => True
  | _ => False
abbrev Rho := List (Option Sl)
def ExR (K : PySem.W.Frag) (G H : Hp) (cls : Value) (d : Option Addr) (e : Ex) : Prop :=
  cls = .ref e.cls ∧ ((e.fs = [] ∧ d = none) ∨ ∃ dd fs, d = some dd ∧ H dd = some (.xd fs) ∧ fs.map (·.1) = e.fs.map (·.1) ∧ RpAll K G (fs.map (·.2)) (e.fs.map (·.2)))
theorem ExR.mv {K : PySem.W.Frag} {G G' H H' : Hp} {cls : Value} {d : Option Addr} {e : Ex} (s : Sub G G') (hx : ∀ dd fs, H dd = some (.xd fs) → H' dd = some (.xd fs)) (h : ExR K G H cls d e) : ExR K G' H' cls d e := by
  obtain ⟨h1, h2⟩ := h
  refine ⟨h1, ?_⟩
  rcases h2 with h2 | ⟨dd, fs, h3, h4, h5, h6⟩
  · exact .inl h2
  · exact .inr ⟨dd, fs, h3, hx _ _ h4, h5, h6.mono s⟩
def SlotR (K : PySem.W.Frag) (O0 O : List Addr) (H : Hp) (v : V) : Sl → Prop
  | .d x => Rp K (hide O H) v x
  | .own xs => ∃ p vs, v = .ref p ∧ p ∈ O ∧ p ∉ O0 ∧ H p = some (.lst vs) ∧ xs.length ≤ sizeLine ∧ RpAll K (hide O H) vs xs
  | .dct ks => ∃ p ep xs, v = .ref p ∧ p ∈ O ∧ p ∉ O0 ∧ H p = some (dctO p ep xs) ∧ xs.map (·.1) = ks ∧ ∀ x ∈ xs, SqT K (hide O H) x.2 (x.1.map V.int)
  | .exn a cls dd e => v = .ref a ∧ ExR K (hide O H) H cls dd e
theorem SlotR.hold {K : PySem.W.Frag} {O0 O : List Addr} {H : Hp} {v : V} {s : Sl} (hs : s.Hold) (h : SlotR K O0 O H v s) : ∃ p, v = .ref p ∧ p ∈ O ∧ p ∉ O0 := by
  cases s with
  | d x => exact hs.elim
  | own xs => obtain ⟨p, vs, rfl, m, n, _⟩ := h; exact ⟨p, rfl, m, n⟩
  | dct ks => obtain ⟨p, _, vs, rfl, m, n, _⟩ := h; exact ⟨p, rfl, m, n⟩
  | exn a c dd e => exact hs.elim
theorem SlotR.mv {K : PySem.W.Frag} {O0 O O' : List Addr} {H H' : Hp} {v : V} {s : Sl} (sub : Sub (hide O H) (hide O' H')) (hm : s.Hold → ∀ p, v = .ref p → p ∈ O → p ∉ O0 → p ∈ O' ∧ ∀ o, H p = some o → (∀ ps, o ≠ .tbl ps) → H' p = some o)
    (hx : ∀ dd fs, H dd = some (.xd fs) → H' dd = some (.xd fs)) (h : SlotR K O0 O H v s) : SlotR K O0 O' H' v s := by
  cases s with
  | d x => exact Rp.mono sub h
  | own xs =>
    obtain ⟨p, vs, rfl, m, n, hp, z, r⟩ := h
    obtain ⟨m', k⟩ := hm trivial p rfl m n
    exact ⟨p, vs, rfl, m', n, k _ hp (fun _ q => by cases q), z, r.mono sub⟩
  | dct ks =>
    obtain ⟨p, ep, xs, rfl, m, n, hp, z, r⟩ := h
    obtain ⟨m', k⟩ := hm trivial p rfl m n
    exact ⟨p, ep, xs, rfl, m', n, k _ hp (fun _ q => by cases q), z, fun x hx => sub.sqT (r x hx)⟩
  | exn a c dd e => exact ⟨h.1, h.2.mv sub hx⟩
structure St0 (K : PySem.W.Frag) (Tb : List Addr) (H0 : Hp) (O0 O : List Addr) (H : Hp) (σ : L2.St) (ρ : Rho) : Prop where
  ext : Ext H0 H
  sub : ∀ b ∈ O0, b ∈ O
  new : ∀ b ∈ O, b ∉ O0 → H0 b = none
  al : ∀ b ∈ O, H b ≠ none
  tab : ∀ P ∈ Tb, TabC H P
  pln : ∀ b ∈ O, b ∉ O0 → ∃ o, H b = some o ∧ Plain o
  len : σ.length = ρ.length
  slot : ∀ (i : Nat) (s : Sl), ρ[i]? = some (some s) → ∃ v, σ[i]? = some (some v) ∧ SlotR K O0 O H v s
  inj : ∀ (i j : Nat) (p : Addr) (s t : Sl), s.Hold → t.Hold → ρ[i]? = some (some s) → ρ[j]? = some (some t) → σ[i]? = some (some (.ref p)) → σ[j]? = some (some (.ref p)) → i = j
section
variable {K : PySem.W.Frag} {Tb : List Addr} {H0 H H' : Hp} {O0 O : List Addr} {σ : L2.St} {ρ : Rho}
theorem St0.step (s : St0 K Tb H0 O0 O H σ ρ) (e : Ext H H') : St0 K Tb H0 O0 O H' σ ρ where
  ext := s.ext.trans e
  sub := s.sub
  new := s.new
  al := fun b m => e.al b (s.al b m)
  tab := fun P m => e.tab P (s.tab P m)
  pln := fun b m n => by
    obtain ⟨o, h, q⟩ := s.pln b m n
    exact ⟨o, e.keep b o h q.2, q⟩
  len := s.len
  slot := fun i x h => by
    obtain ⟨v, h1, h2⟩ := s.slot i x h
    exact ⟨v, h1, h2.mv (Sub.hide e.keep) (fun _ p _ m _ => ⟨m, fun o h n => e.keep p o h n⟩) fun dd fs h => e.keep dd _ h fun _ q => by cases q⟩
  inj := s.inj
theorem St0.hold (s : St0 K Tb H0 O0 O H σ ρ) {i : Nat} {x : Sl} {p : Addr} (hx : x.Hold) (h : ρ[i]? = some (some x)) (hp : σ[i]? = some (some (.ref p))) : p ∈ O ∧ p ∉ O0 := by
  obtain ⟨v, h1, h2⟩ := s.slot i x h
  obtain ⟨q, rfl, m, n⟩ := h2.hold hx
  rw [hp] at h1
  cases h1
  exact ⟨m, n⟩
/-- a new address is none of the hidden -/
theorem St0.fresh (s : St0 K Tb H0 O0 O H σ ρ) {p : Addr} (h : H p = none) : p ∉ O := fun m => s.al p m h
end

/-! ### readings from denotations -/
abbrev WX := L2.WX
def AftX (K : PySem.W.Frag) (O : List Addr) (H : Hp) (e : Ex) (W : Value → Option Addr → Hp → Prop) : Prop := ∀ cls d H', Ext H H' → ExR K (hide O H') H' cls d e → W cls d H'
/-- what is wanted of a result -/
def Post (K : PySem.W.Frag) (O : List Addr) {α β : Type} (Rl : Hp → β → α → Prop) (W : Value → Option Addr → Hp → Prop) (H : Hp) (x : R α) (Q : β → Hp → Prop) : Prop := match x with
  | .ok a => ∀ b H', Ext H H' → Rl H' b a → Q b H'
  | .exc e => AftX K O H e W
  | .bad => False
abbrev RlD (K : PySem.W.Frag) (O : List Addr) : Hp → V → PyData → Prop := fun H v d => Rp K (hide O H) v d
abbrev RlL (K : PySem.W.Frag) (O : List Addr) : Hp → List V → List PyData → Prop := fun H v d => RpAll K (hide O H) v d
abbrev RlB : Hp → Bool → Bool → Prop := fun _ b c => b = c
section
variable {K : PySem.W.Frag} {O : List Addr} {α α' β β' : Type} {Rl : Hp → β → α → Prop} {Rl' : Hp → β' → α' → Prop} {W : Value → Option Addr → Hp → Prop} {H H1 : Hp}
theorem Post.step {x : R α} {Q : β → Hp → Prop} (h : Post K O Rl W H x Q) (e : Ext H H1) : Post K O Rl W H1 x Q := by
  cases x with
  | ok a => exact fun b H' e' r => h b H' (e.trans e') r
  | exc x => exact fun c d H' e' r => h c d H' (e.trans e') r
  | bad => exact h
theorem Post.then {x : R α} {f : α → R α'} {Q : β → Hp → Prop} {Q' : β' → Hp → Prop} (h : Post K O Rl' W H (x >>= f) Q') (k : ∀ a b H1, Ext H H1 → Rl H1 b a → Post K O Rl' W H1 (f a) Q' → Q b H1) : Post K O Rl W H x Q := by
  cases x with
  | ok a => exact fun b H' e r => k a b H' e r (Post.step (show Post K O Rl' W H (f a) Q' from h) e)
  | exc x => exact h
  | bad => exact h
theorem Post.mono {x : R α} {Q Q' : β → Hp → Prop} (h : Post K O Rl W H x Q) (k : ∀ b H1, Q b H1 → Q' b H1) : Post K O Rl W H x Q' := by
  cases x with
  | ok a => exact fun b H' e r => k _ _ (h b H' e r)
  | exc x => exact h
  | bad => exact h
end
section
variable (K : PySem.W.Frag) (Tb : List Addr) (W : WX)
def tD (f : Rho → R PyData) : TE := fun σ H Q => ∃ H0 O0 O ρ, St0 K Tb H0 O0 O H σ ρ ∧ Post K O (RlD K O) (fun c d H => W c d σ H) H (f ρ) Q
def tDs (f : Rho → R (List PyData)) : TA := fun σ H Q => ∃ H0 O0 O ρ, St0 K Tb H0 O0 O H σ ρ ∧ Post K O (RlL K O) (fun c d H => W c d σ H) H (f ρ) Q
def tDT (f : Rho → R Bool) : TT := fun σ H Q => ∃ H0 O0 O ρ, St0 K Tb H0 O0 O H σ ρ ∧ Post K O RlB (fun c d H => W c d σ H) H (f ρ) Q
end
theorem _root_.L2.PE.by {X : Cx} {e : Expr} {t t' : TE} (h : PE X e t) (i : ∀ σ H Q, t' σ H Q → t σ H Q) : PE X e t' := ⟨fun pins s σ H Q I q => h.run pins s σ H Q I (i σ H Q q)⟩
theorem _root_.L2.PT.by {X : Cx} {e : Expr} {t t' : TT} (h : PT X e t) (i : ∀ σ H Q, t' σ H Q → t σ H Q) : PT X e t' := ⟨fun pins s σ H Q I q => h.run pins s σ H Q I (i σ H Q q)⟩
theorem _root_.L2.PW.by {X : Cx} {e : Expr} {t t' : TT} (h : PW X e t) (i : ∀ σ H Q, t' σ H Q → t σ H Q) : PW X e t' := ⟨fun wh pins s σ H Q I q => h.run wh pins s σ H Q I (i σ H Q q)⟩
theorem _root_.L2.PA.by {X : Cx} {e : List Expr} {t t' : TA} (h : PA X e t) (i : ∀ σ H Q, t' σ H Q → t σ H Q) : PA X e t' := ⟨fun pos pins s σ H Q I q => h.run pos pins s σ H Q I (i σ H Q q)⟩
theorem _root_.L2.PS.by {X : Cx} {e : Stmt} {t t' : TS} (h : PS X e t) (i : ∀ D σ H, t' D σ H → t D σ H) : PS X e t' := ⟨fun pins s σ H D I q => h.run pins s σ H D I (i D σ H q)⟩
theorem _root_.L2.PSs.by {X : Cx} {e : List Stmt} {t t' : TS} (h : PSs X e t) (i : ∀ D σ H, t' D σ H → t D σ H) : PSs X e t' := ⟨fun pins s σ H D I q => h.run pins s σ H D I (i D σ H q)⟩
end PD

set_option Elab.async false
set_option linter.all false
set_option maxRecDepth 100000
set_option maxHeartbeats 1000000
namespace PD
open PySem PySem.Spec PyProof.Rows L2

/-! ### operations on data -/
def oAdd : PyData → PyData → R PyData
  | .int i, .int j => .ok (.int (i + j))
  | .tuple xs, .tuple ys => if xs.length + ys.length ≤ sizeLine then .ok (.tuple (xs ++ ys)) else .bad
  | .list xs, .list ys => if xs.length + ys.length ≤ sizeLine then .ok (.list (xs ++ ys)) else .bad
  | _, _ => .bad
def oSub : PyData → PyData → R PyData
  | .int i, .int j => .ok (.int (i - j))
  | _, _ => .bad
instance (i j : Int) : Decidable (CMul i j) := by unfold CMul; infer_instance
instance (i j : Int) : Decidable (CPow i j) := by unfold CPow; infer_instance
instance (i j : Int) : Decidable (CDivN i j) := by unfold CDivN; infer_instance
def oMul : PyData → PyData → R PyData
  | .int i, .int j => if CMul i j then .ok (.int (i * j)) else .bad
  | _, _ => .bad
def oDiv : PyData → PyData → R PyData
  | .int i, .int j => if CDivN i j then .ok (.int (i.fdiv j)) else .bad
  | _, _ => .bad
def oMod : PyData → PyData → R PyData
  | .int i, .int j => if j ≠ 0 then .ok (.int (i.fmod j)) else .bad
  | _, _ => .bad
def oPow : PyData → PyData → R PyData
  | .int i, .int j => if CPow i j then .ok (.int (i ^ j.toNat)) else .bad
  | _, _ => .bad
def oNeg : PyData → R PyData
  | .int i => .ok (.int (-i))
  | _ => .bad
def shp (d : PyData) : Bool := SeqAt.shaped d
def oEq (d e : PyData) : R PyData := if shp d = true ∧ shp e = true then .ok (.bool (PyData.eqv d e)) else .bad
def oNe (d e : PyData) : R PyData := if shp d = true ∧ shp e = true then .ok (.bool (!PyData.eqv d e)) else .bad
def oLt : PyData → PyData → R PyData
  | .int i, .int j => .ok (.bool (decide (i < j)))
  | _, _ => .bad
def oLe : PyData → PyData → R PyData
  | .int i, .int j => .ok (.bool (decide (i ≤ j)))
  | _, _ => .bad
def oGt : PyData → PyData → R PyData
  | .int i, .int j => .ok (.bool (decide (j < i)))
  | _, _ => .bad
def oGe : PyData → PyData → R PyData
  | .int i, .int j => .ok (.bool (decide (j ≤ i)))
  | _, _ => .bad
def items : PyData → R (List PyData)
  | .list xs => .ok xs
  | .tuple xs => .ok xs
  | _ => .bad
def inD (d : PyData) (xs : List PyData) : Bool := xs.any fun z => PyData.eqv z d
def oIn (d e : PyData) : R PyData := if shp d = true ∧ shp e = true then (do let xs ← items e; .ok (.bool (inD d xs))) else .bad
def oNotIn (d e : PyData) : R PyData := if shp d = true ∧ shp e = true then (do let xs ← items e; .ok (.bool (!inD d xs))) else .bad
def isNone : PyData → Bool
  | .none => true
  | _ => false
def oIx : PyData → PyData → R PyData
  | .list xs, .int i => match atI xs i with | some d => .ok d | none => .bad
  | .tuple xs, .int i => match atI xs i with | some d => .ok d | none => .bad
  | _, _ => .bad
def truD : PyData → R Bool
  | .none => .ok false
  | .bool b => .ok b
  | .int i => .ok (i != 0)
  | .list xs => .ok !xs.isEmpty
  | .tuple xs => .ok !xs.isEmpty
  | _ => .bad
def cutD (xs : List PyData) (lo hi : Option Int) : List PyData := (xs.drop (HT.sIx xs.length 0 lo)).take (HT.sIx xs.length xs.length hi - HT.sIx xs.length 0 lo)
def oCut (d : PyData) (lo hi : Option Int) : R PyData := match d with
  | .list xs => .ok (.list (cutD xs lo hi))
  | .tuple xs => .ok (.tuple (cutD xs lo hi))
  | _ => .bad
theorem cutD_length (xs : List PyData) (lo hi : Option Int) : (cutD xs lo hi).length ≤ xs.length := by
  unfold cutD
  rw [List.length_take, List.length_drop]
  omega

/-! ### denotations -/
abbrev Dn := Rho → R PyData
abbrev DnL := Rho → R (List PyData)
abbrev DnB := Rho → R Bool
def dVar (i : Nat) : Dn := fun ρ => match ρ[i]? with
  | some (some (.d x)) => .ok x
  | _ => .bad
def dC (x : PyData) : Dn := fun _ => .ok x
def dOne (u : PyData → R PyData) (f : Dn) : Dn := fun ρ => f ρ >>= u
def dTwo (u : PyData → PyData → R PyData) (f g : Dn) : Dn := fun ρ => f ρ >>= fun a => g ρ >>= fun b => u a b
def dNil : DnL := fun _ => .ok []
def dCons (f : Dn) (g : DnL) : DnL := fun ρ => f ρ >>= fun a => g ρ >>= fun b => .ok (a :: b)
def dTup (g : DnL) : Dn := fun ρ => g ρ >>= fun xs => if xs.length ≤ sizeLine then .ok (.tuple xs) else .bad
def dLst (g : DnL) : Dn := fun ρ => g ρ >>= fun xs => if xs.length ≤ sizeLine then .ok (.list xs) else .bad
def dArg (m : List PyData → R PyData) (g : DnL) : Dn := fun ρ => g ρ >>= m
def dTru (f : Dn) : DnB := fun ρ => f ρ >>= truD
def asB : PyData → R Bool
  | .bool b => .ok b
  | _ => .bad
def dAsB (f : Dn) : DnB := fun ρ => f ρ >>= asB
def dAnd (f g : DnB) : DnB := fun ρ => f ρ >>= fun b => if b = true then g ρ else .ok false
def dOr (f g : DnB) : DnB := fun ρ => f ρ >>= fun b => if b = true then .ok true else g ρ
def dNot (f : DnB) : DnB := fun ρ => f ρ >>= fun b => .ok (!b)
def dBool (f : DnB) : Dn := fun ρ => f ρ >>= fun b => .ok (.bool b)
def dAndV (f g : Dn) : Dn := fun ρ => f ρ >>= fun a => asB a >>= fun b => if b = true then g ρ else .ok (.bool false)
def dOrV (f g : Dn) : Dn := fun ρ => f ρ >>= fun a => asB a >>= fun b => if b = true then .ok (.bool true) else g ρ
def dNotV (f : Dn) : Dn := fun ρ => f ρ >>= fun a => asB a >>= fun b => .ok (.bool (!b))
def dIf (c : DnB) (f g : Dn) : Dn := fun ρ => c ρ >>= fun b => if b = true then f ρ else g ρ
def asI : PyData → R Int
  | .int i => .ok i
  | _ => .bad
abbrev DnO := Rho → R (Option Int)
def dNoP : DnO := fun _ => .ok none
def dPart (f : Dn) : DnO := fun ρ => f ρ >>= fun a => asI a >>= fun i => .ok (some i)
def dCut (f : Dn) (lo hi : DnO) : Dn := fun ρ => f ρ >>= fun a => lo ρ >>= fun l => hi ρ >>= fun h => oCut a l h

section
variable {X : Cx} {Tb : List Addr} {W : WX} {K : PySem.W.Frag} {O : List Addr} {H : Hp} {σ : L2.St} {Wx : Value → Option Addr → Hp → Prop}
def Al (O : List Addr) (H : Hp) : Prop := ∀ b ∈ O, H b ≠ none

/-- a new tuple, a new list -/
theorem Post.newTup {xs : List V} {ds : List PyData} {Q : VK} (al : Al O H) (h : Post K O (RlD K O) Wx H (.ok (.tuple ds)) Q) (z : ds.length ≤ sizeLine) (r : RpAll K (hide O H) xs ds) : ∀ p, H p = none → Q (.ref p) (upd H p (.tup xs)) := fun p hp => by
  have n : p ∉ O := fun m => al p m hp
  refine h _ _ (Ext.new hp) (.tup (.of (by rw [hide_out n, upd_same])) z (r.mono (Sub.hide (Ext.new hp).keep)))
theorem Post.newLst {xs : List V} {ds : List PyData} {Q : VK} (al : Al O H) (h : Post K O (RlD K O) Wx H (.ok (.list ds)) Q) (z : ds.length ≤ sizeLine) (r : RpAll K (hide O H) xs ds) : ∀ p, H p = none → Q (.ref p) (upd H p (.lst xs)) := fun p hp => by
  have n : p ∉ O := fun m => al p m hp
  refine h _ _ (Ext.new hp) (.lst (.of (by rw [hide_out n, upd_same])) z (r.mono (Sub.hide (Ext.new hp).keep)))
theorem Post.here {d : PyData} {v : V} {Q : VK} (h : Post K O (RlD K O) Wx H (.ok d) Q) (r : Rp K (hide O H) v d) : Q v H := h v H (Ext.refl H) r

/-- an operator by values -/
def Ok1 (K : PySem.W.Frag) (r : V → Hp → VK → Prop) (u : PyData → R PyData) : Prop := ∀ (O : List Addr) (H : Hp) (Wx : Value → Option Addr → Hp → Prop) (v : V) (d : PyData) (Q : VK), Al O H → Rp K (hide O H) v d → Post K O (RlD K O) Wx H (u d) Q → r v H Q
def Ok2 (K : PySem.W.Frag) (r : R2) (u : PyData → PyData → R PyData) : Prop := ∀ (O : List Addr) (H : Hp) (Wx : Value → Option Addr → Hp → Prop) (x y : V) (d e : PyData) (Q : VK), Al O H → Rp K (hide O H) x d → Rp K (hide O H) y e → Post K O (RlD K O) Wx H (u d e) Q → r x y H Q
def OkL (K : PySem.W.Frag) (r : List V → Hp → VK → Prop) (u : List PyData → R PyData) : Prop := ∀ (O : List Addr) (H : Hp) (Wx : Value → Option Addr → Hp → Prop) (vs : List V) (ds : List PyData) (Q : VK), Al O H → RpAll K (hide O H) vs ds → Post K O (RlD K O) Wx H (u ds) Q → r vs H Q
theorem tD_one {r : V → Hp → VK → Prop} {u : PyData → R PyData} {f : Dn} {Q : VK} (hr : Ok1 K r u) (h : tD K Tb W (dOne u f) σ H Q) : tUn r (tD K Tb W f) σ H Q := by
  obtain ⟨H0, O0, O, ρ, st, h⟩ := h
  exact ⟨H0, O0, O, ρ, st, Post.then h fun d v H1 e r1 k => hr O H1 _ v d Q (st.step e).al r1 k⟩
theorem tD_two {r : R2} {u : PyData → PyData → R PyData} {f g : Dn} {Q : VK} (hr : Ok2 K r u) (h : tD K Tb W (dTwo u f g) σ H Q) : tOp r (tD K Tb W f) (tD K Tb W g) σ H Q := by
  obtain ⟨H0, O0, O, ρ, st, h⟩ := h
  refine ⟨H0, O0, O, ρ, st, Post.then h fun d v H1 e r1 k => ?_⟩
  refine ⟨H0, O0, O, ρ, st.step e, Post.then k fun d2 v2 H2 e2 r2 k2 => ?_⟩
  exact hr O H2 _ v v2 d d2 Q ((st.step e).step e2).al (r1.mono (Sub.hide e2.keep)) r2 k2
theorem tD_arg {r : List V → Hp → VK → Prop} {u : List PyData → R PyData} {g : DnL} {Q : VK} (hr : OkL K r u) (h : tD K Tb W (dArg u g) σ H Q) : tCB r (tDs K Tb W g) σ H Q := by
  obtain ⟨H0, O0, O, ρ, st, h⟩ := h
  exact ⟨H0, O0, O, ρ, st, Post.then h fun d v H1 e r1 k => hr O H1 _ v d Q (st.step e).al r1 k⟩

/-! ### names, constants, displays -/
theorem fd_var (i : Nat) {x : Str} {pos : Pos} (hN : X.N[i]? = some x := by rfl) (hv : Vis X.env.scope x := by first | exact Or.inl rfl | exact Or.inr (Or.inl rfl) | exact Or.inr (Or.inr rfl)) (hd : (x == ("__debug__" : Str)) = false := by decide)
    (hcd : (x == ("__classdict__" : Str)) = false := by decide) : PE X (.Name x pos) (tD X.K Tb W (dVar i)) := (pv i hN hv hd hcd).by fun σ H Q h => by
  obtain ⟨H0, O0, O, ρ, st, h⟩ := h
  unfold dVar at h
  split at h
  · rename_i x e
    obtain ⟨v, h1, h2⟩ := st.slot i _ e
    exact ⟨v, h1, Post.here h h2⟩
  · exact h.elim
theorem fd_int {i : Int} {j pos} : PE X (.Constant (.int i) j pos) (tD X.K Tb W (dC (.int i))) := pe_int.by fun σ H Q ⟨_, _, _, _, _, h⟩ => Post.here h (.int i)
theorem fd_bl {b : Bool} {j pos} : PE X (.Constant (.bool b) j pos) (tD X.K Tb W (dC (.bool b))) := pe_bl.by fun σ H Q ⟨_, _, _, _, _, h⟩ => Post.here h (.bl b)
theorem fd_non {j pos} : PE X (.Constant .none j pos) (tD X.K Tb W (dC .none)) := pe_non.by fun σ H Q ⟨_, _, _, _, _, h⟩ => Post.here h .non
theorem fd_str {x : Str} {j pos} : PE X (.Constant (.str x) j pos) (tD X.K Tb W (dC (.str x))) := pe_str.by fun σ H Q ⟨_, _, _, _, _, h⟩ => Post.here h (.str x)
theorem fa_nil : PA X [] (tDs X.K Tb W dNil) := pa_nil.by fun σ H Q ⟨_, _, _, _, _, h⟩ => h [] H (Ext.refl H) .nil
theorem fa_cons {e : Expr} {es : List Expr} {f : Dn} {g : DnL} (ha : PE X e (tD X.K Tb W f)) (hr : PA X es (tDs X.K Tb W g)) (hs : starEach (e :: es) X.env = (false, eval e X.env) :: starEach es X.env := by rfl) : PA X (e :: es) (tDs X.K Tb W (dCons f g)) :=
  (pa_cons ha hr hs).by fun σ H Q h => by
    obtain ⟨H0, O0, O, ρ, st, h⟩ := h
    refine ⟨H0, O0, O, ρ, st, Post.then h fun d v H1 e r1 k => ?_⟩
    refine ⟨H0, O0, O, ρ, st.step e, Post.then k fun d2 v2 H2 e2 r2 k2 => ?_⟩
    exact k2 _ H2 (Ext.refl _) (.cons (r1.mono (Sub.hide e2.keep)) r2)
theorem fd_tup {es : List Expr} {g : DnL} {x1} {pos : Pos} (h : PA X es (tDs X.K Tb W g)) : PE X (.Tuple es x1 pos) (tD X.K Tb W (dTup g)) := (pe_tup h).by fun σ H Q h => by
  obtain ⟨H0, O0, O, ρ, st, h⟩ := h
  refine ⟨H0, O0, O, ρ, st, Post.then h fun d v H1 e r1 k => ?_⟩
  split at k
  · rename_i z
    exact ⟨by rw [r1.length]; exact z, Post.newTup (st.step e).al k z r1⟩
  · exact k.elim
theorem fd_lst {es : List Expr} {g : DnL} {pos : Pos} (h : PA X es (tDs X.K Tb W g)) : PE X (.List es pos) (tD X.K Tb W (dLst g)) := (pe_lst h).by fun σ H Q h => by
  obtain ⟨H0, O0, O, ρ, st, h⟩ := h
  refine ⟨H0, O0, O, ρ, st, Post.then h fun d v H1 e r1 k => ?_⟩
  split at k
  · rename_i z
    exact ⟨by rw [r1.length]; exact z, Post.newLst (st.step e).al k z r1⟩
  · exact k.elim

/-! ### operators -/
def rCatS (K : PySem.W.Frag) : R2 := fun x y H Q => ∃ l b xs zs, x = .ref l ∧ y = .ref b ∧ SqL K H l xs ∧ SqL K H b zs ∧ xs.length + zs.length ≤ sizeLine ∧ ∀ p, H p = none → Q (.ref p) (upd H p (.lst (xs ++ zs)))
theorem op_catS : OpR X (binaryOp .Add) (rCatS X.K) := by
  intro pins s σ H x y v u Q I rx ry h
  obtain ⟨l, b, xs, zs, rfl, rfl, hH, hB, hz, q⟩ := h
  cases rx
  cases ry
  obtain ⟨its, r, ⟨⟨cls, dd, data, sl⟩, n, ho, hc, hdd, hd⟩, _⟩ := I.list hH
  obtain ⟨its2, r2, ⟨⟨cls2, dd2, data2, sl2⟩, n2, ho2, hc2, hdd2, hd2⟩, _⟩ := I.list hB
  simp only at hc hdd hd hc2 hdd2 hd2
  subst hc hdd hd hc2 hdd2 hd2
  have l1 := r.length
  have l2 := r2.length
  have e : its.toArray ++ its2.toArray = (its ++ its2).toArray := by simp
  refine concat_meets ⟨_, ho, rfl⟩ ⟨_, ho2, rfl⟩ noFill_list_add seq_list_add PySem.F.slot_list_add PySem.F.entry_list_add (PySem.F.args_list_add_2 _ _) (list_addW l b its.toArray its2.toArray n n2 none none sl sl2 (by rw [List.size_toArray, List.size_toArray]; omega)) ⟨ho, ho2, ?_⟩
  rw [e]
  exact ⟨.ref _, _, I.lnew (t' := s.toks) (r.append r2) (by rw [List.length_append]; omega), rfl, q _ I.fresh⟩
theorem opR_or {f : Value → Value → Sem Value} {r r' : R2} (h : OpR X f r) (h' : OpR X f r') : OpR X f (fun x y H Q => r x y H Q ∨ r' x y H Q) := by
  intro pins s σ H x y v u Q I rx ry q
  rcases q with q | q
  · exact h pins s σ H x y v u Q I rx ry q
  · exact h' pins s σ H x y v u Q I rx ry q
theorem ok_add : Ok2 K (fun x y H Q => rI0 (fun i j => .int (i + j)) x y H Q ∨ (rCatA K x y H Q ∨ rCatS K x y H Q)) oAdd := by
  intro O H Wx x y d e Q al hx hy h
  unfold oAdd at h
  split at h
  · cases hx; cases hy
    exact .inl ⟨_, _, rfl, rfl, Post.here h (.int _)⟩
  · split at h
    · rename_i z
      cases hx with
      | tup h1 z1 a1 =>
        cases hy with
        | tup h2 z2 a2 =>
          refine .inr (.inl ⟨_, _, _, _, rfl, rfl, Sub.unhide.sqT h1, Sub.unhide.sqT h2, by rw [a1.length, a2.length]; exact z, fun e0 => ?_, fun _ e0 => ?_, fun _ _ => ?_⟩)
          · subst e0
            cases a1
            exact Post.here h (.tup h2 z2 a2)
          · subst e0
            cases a2
            rw [List.append_nil] at h
            exact Post.here h (.tup h1 z1 a1)
          · exact Post.newTup al h (by rw [List.length_append]; exact z) (a1.append a2)
    · exact h.elim
  · split at h
    · rename_i z
      cases hx with
      | lst h1 z1 a1 =>
        cases hy with
        | lst h2 z2 a2 =>
          exact .inr (.inr ⟨_, _, _, _, rfl, rfl, Sub.unhide.sqL h1, Sub.unhide.sqL h2, by rw [a1.length, a2.length]; exact z, Post.newLst al h (by rw [List.length_append]; exact z) (a1.append a2)⟩)
    · exact h.elim
  · exact h.elim
theorem ok_sub : Ok2 K (rI0 fun i j => .int (i - j)) oSub := by
  intro O H Wx x y d e Q al hx hy h
  unfold oSub at h
  split at h
  · cases hx; cases hy
    exact ⟨_, _, rfl, rfl, Post.here h (.int _)⟩
  · exact h.elim
theorem ok_mul : Ok2 K (rI CMul fun i j => .int (i * j)) oMul := by
  intro O H Wx x y d e Q al hx hy h
  unfold oMul at h
  split at h
  · cases hx; cases hy
    split at h
    · exact ⟨_, _, rfl, rfl, by assumption, Post.here h (.int _)⟩
    · exact h.elim
  · exact h.elim
theorem ok_div : Ok2 K (rI CDivN fun i j => .int (i.fdiv j)) oDiv := by
  intro O H Wx x y d e Q al hx hy h
  unfold oDiv at h
  split at h
  · cases hx; cases hy
    split at h
    · exact ⟨_, _, rfl, rfl, by assumption, Post.here h (.int _)⟩
    · exact h.elim
  · exact h.elim
theorem ok_mod : Ok2 K (rI (fun _ j => j ≠ 0) fun i j => .int (i.fmod j)) oMod := by
  intro O H Wx x y d e Q al hx hy h
  unfold oMod at h
  split at h
  · cases hx; cases hy
    split at h
    · exact ⟨_, _, rfl, rfl, by assumption, Post.here h (.int _)⟩
    · exact h.elim
  · exact h.elim
theorem ok_pow : Ok2 K (rI CPow fun i j => .int (i ^ j.toNat)) oPow := by
  intro O H Wx x y d e Q al hx hy h
  unfold oPow at h
  split at h
  · cases hx; cases hy
    split at h
    · exact ⟨_, _, rfl, rfl, by assumption, Post.here h (.int _)⟩
    · exact h.elim
  · exact h.elim
variable {a b c : Expr} {f g : Dn} {pos : Pos}
theorem fd_add (ha : PE X a (tD X.K Tb W f)) (hb : PE X b (tD X.K Tb W g)) : PE X (.BinOp a .Add b pos) (tD X.K Tb W (dTwo oAdd f g)) := (pe_op (opR_or op_add (opR_or op_catA op_catS)) ha hb).by fun σ H Q h => tD_two ok_add h
theorem fd_sub (ha : PE X a (tD X.K Tb W f)) (hb : PE X b (tD X.K Tb W g)) : PE X (.BinOp a .Sub b pos) (tD X.K Tb W (dTwo oSub f g)) := (pe_op op_sub ha hb).by fun σ H Q h => tD_two ok_sub h
theorem fd_mul (ha : PE X a (tD X.K Tb W f)) (hb : PE X b (tD X.K Tb W g)) : PE X (.BinOp a .Mult b pos) (tD X.K Tb W (dTwo oMul f g)) := (pe_op op_mul ha hb).by fun σ H Q h => tD_two ok_mul h
theorem fd_div (ha : PE X a (tD X.K Tb W f)) (hb : PE X b (tD X.K Tb W g)) : PE X (.BinOp a .FloorDiv b pos) (tD X.K Tb W (dTwo oDiv f g)) := (pe_op op_fdivN ha hb).by fun σ H Q h => tD_two ok_div h
theorem fd_mod (ha : PE X a (tD X.K Tb W f)) (hb : PE X b (tD X.K Tb W g)) : PE X (.BinOp a .Mod b pos) (tD X.K Tb W (dTwo oMod f g)) := (pe_op op_modN ha hb).by fun σ H Q h => tD_two ok_mod h
theorem fd_pow (ha : PE X a (tD X.K Tb W f)) (hb : PE X b (tD X.K Tb W g)) : PE X (.BinOp a .Pow b pos) (tD X.K Tb W (dTwo oPow f g)) := (pe_op op_pow ha hb).by fun σ H Q h => tD_two ok_pow h
theorem fd_neg (ha : PE X a (tD X.K Tb W f)) : PE X (.UnaryOp .USub a pos) (tD X.K Tb W (dOne oNeg f)) := (pe_un un_neg ha).by fun σ H Q h => tD_one (K := X.K) (u := oNeg) (by
  intro O H Wx v d Q al hv h
  unfold oNeg at h
  split at h
  · cases hv
    exact ⟨_, rfl, Post.here h (.int _)⟩
  · exact h.elim) h

/-! ### comparisons -/
theorem ok_eq : Ok2 K (rEqD K) oEq := by
  intro O H Wx x y d e Q al hx hy h
  unfold oEq at h
  split at h
  · rename_i z
    exact ⟨d, e, (hx.mono Sub.unhide).dp (nod_of_lay (SeqAt.canLay_of_shaped z.1)), (hy.mono Sub.unhide).dp (nod_of_lay (SeqAt.canLay_of_shaped z.2)), z.1, z.2, Post.here h (.bl _)⟩
  · exact h.elim
theorem ok_ne : Ok2 K (rNeD K) oNe := by
  intro O H Wx x y d e Q al hx hy h
  unfold oNe at h
  split at h
  · rename_i z
    exact ⟨d, e, (hx.mono Sub.unhide).dp (nod_of_lay (SeqAt.canLay_of_shaped z.1)), (hy.mono Sub.unhide).dp (nod_of_lay (SeqAt.canLay_of_shaped z.2)), z.1, z.2, Post.here h (.bl _)⟩
  · exact h.elim
def rInS (K : PySem.W.Frag) (neg : Bool) : R2 := fun x y H Q => ∃ d e ds, Dp K H x d ∧ Dp K H y e ∧ items e = .ok ds ∧ SeqAt.shaped d = true ∧ SeqAt.shaped e = true ∧ Q (.bl (if neg then !inD d ds else inD d ds)) H
theorem op_inS (hu : X.A.units + 65 < cLine) : OpR X (compareOp .In) (rInS X.K false) := by
  intro pins s σ H x y v u Q I rx ry h
  obtain ⟨d, e, ds, hd, he, hi, sd, se, q⟩ := h
  obtain ⟨as, r1⟩ := Dp.reads I d x v hd rx
  obtain ⟨bs, r2⟩ := Dp.reads I e y u he ry
  unfold items at hi
  split at hi
  · cases hi
    exact SeqAt.in_list_reads r2 r1 (SeqAt.canLay_of_shaped se) (SeqAt.canLay_of_shaped sd) (room_in_shaped sd hu) ⟨.bl _, H, I, rfl, q⟩
  · cases hi
    exact SeqAt.in_tuple_reads r2 r1 (SeqAt.canLay_of_shaped se) (SeqAt.canLay_of_shaped sd) (room_in_shaped sd hu) ⟨.bl _, H, I, rfl, q⟩
  · cases hi
theorem op_notInS (hu : X.A.units + 65 < cLine) : OpR X (compareOp .NotIn) (rInS X.K true) := by
  intro pins s σ H x y v u Q I rx ry h
  obtain ⟨d, e, ds, hd, he, hi, sd, se, q⟩ := h
  obtain ⟨as, r1⟩ := Dp.reads I d x v hd rx
  obtain ⟨bs, r2⟩ := Dp.reads I e y u he ry
  unfold items at hi
  split at hi
  · cases hi
    exact SeqAt.notIn_list_reads r2 r1 (SeqAt.canLay_of_shaped se) (SeqAt.canLay_of_shaped sd) (room_in_shaped sd hu) ⟨.bl _, H, I, rfl, q⟩
  · cases hi
    exact SeqAt.notIn_tuple_reads r2 r1 (SeqAt.canLay_of_shaped se) (SeqAt.canLay_of_shaped sd) (room_in_shaped sd hu) ⟨.bl _, H, I, rfl, q⟩
  · cases hi
theorem ok_in : Ok2 K (rInS K false) oIn := by
  intro O H Wx x y d e Q al hx hy h
  unfold oIn at h
  split at h
  · rename_i z
    cases hi : items e with
    | ok ds =>
      rw [hi] at h
      exact ⟨d, e, ds, (hx.mono Sub.unhide).dp (nod_of_lay (SeqAt.canLay_of_shaped z.1)), (hy.mono Sub.unhide).dp (nod_of_lay (SeqAt.canLay_of_shaped z.2)), hi, z.1, z.2, Post.here h (.bl _)⟩
    | exc x => cases e <;> cases hi
    | bad => rw [hi] at h; exact h.elim
  · exact h.elim
theorem ok_notIn : Ok2 K (rInS K true) oNotIn := by
  intro O H Wx x y d e Q al hx hy h
  unfold oNotIn at h
  split at h
  · rename_i z
    cases hi : items e with
    | ok ds =>
      rw [hi] at h
      exact ⟨d, e, ds, (hx.mono Sub.unhide).dp (nod_of_lay (SeqAt.canLay_of_shaped z.1)), (hy.mono Sub.unhide).dp (nod_of_lay (SeqAt.canLay_of_shaped z.2)), hi, z.1, z.2, Post.here h (.bl _)⟩
    | exc x => cases e <;> cases hi
    | bad => rw [hi] at h; exact h.elim
  · exact h.elim
theorem ok_cmp {p : Int → Int → Bool} {u : PyData → PyData → R PyData} (hu : ∀ d e, (∃ i j, d = .int i ∧ e = .int j ∧ u d e = .ok (.bool (p i j))) ∨ u d e = .bad) : Ok2 K (rI0 fun i j => .bl (p i j)) u := by
  intro O H Wx x y d e Q al hx hy h
  rcases hu d e with ⟨i, j, rfl, rfl, q⟩ | q
  · rw [q] at h
    cases hx; cases hy
    exact ⟨_, _, rfl, rfl, Post.here h (.bl _)⟩
  · rw [q] at h
    exact h.elim
theorem ok_lt : Ok2 K (rI0 fun i j => .bl (decide (i < j))) oLt := ok_cmp fun d e => by unfold oLt; split; exact .inl ⟨_, _, rfl, rfl, rfl⟩; exact .inr rfl
theorem ok_le : Ok2 K (rI0 fun i j => .bl (decide (i ≤ j))) oLe := ok_cmp fun d e => by unfold oLe; split; exact .inl ⟨_, _, rfl, rfl, rfl⟩; exact .inr rfl
theorem ok_gt : Ok2 K (rI0 fun i j => .bl (decide (j < i))) oGt := ok_cmp (p := fun i j => decide (j < i)) fun d e => by unfold oGt; split; exact .inl ⟨_, _, rfl, rfl, rfl⟩; exact .inr rfl
theorem ok_ge : Ok2 K (rI0 fun i j => .bl (decide (j ≤ i))) oGe := ok_cmp (p := fun i j => decide (j ≤ i)) fun d e => by unfold oGe; split; exact .inl ⟨_, _, rfl, rfl, rfl⟩; exact .inr rfl
/-- a comparison, by its rule -/
theorem fd_cmp {op : CmpOp} {r : R2} {u : PyData → PyData → R PyData} (ho : OpR X (compareOp op) r) (hk : Ok2 X.K r u) (ha : PE X a (tD X.K Tb W f)) (hb : PE X b (tD X.K Tb W g)) (hm : behindInMarks op b = false) : PE X (.Compare a [op] [b] pos) (tD X.K Tb W (dTwo u f g)) :=
  (pe_cmpR ho ha hb hm).by fun σ H Q h => tD_two hk h
theorem Post.asB {x : R PyData} {Q : Bool → Hp → Prop} (h : Post K O RlB Wx H (x >>= asB) Q) : Post K O (RlD K O) Wx H x (fun v H1 => ∃ k, v = .bl k ∧ Q k H1) := by
  refine Post.then h fun d v H1 e r k => ?_
  unfold PD.asB at k
  split at k
  · cases r
    exact ⟨_, rfl, k _ H1 (Ext.refl _) rfl⟩
  · exact k.elim
theorem ft_cmp {op : CmpOp} {r : R2} {u : PyData → PyData → R PyData} (ho : OpR X (compareOp op) r) (hk : Ok2 X.K r u) (ha : PE X a (tD X.K Tb W f)) (hb : PE X b (tD X.K Tb W g)) (hm : behindInMarks op b = false) : PT X (.Compare a [op] [b] pos) (tDT X.K Tb W (dAsB (dTwo u f g))) :=
  (pt_cmpR ho ha hb hm).by fun σ H Q ⟨H0, O0, O, ρ, st, h⟩ => tD_two (Tb := Tb) (W := W) hk ⟨H0, O0, O, ρ, st, Post.asB h⟩
theorem fd_isN {j pos'} (ha : PE X a (tD X.K Tb W f)) : PE X (.Compare a [.Is] [.Constant .none j pos'] pos) (tD X.K Tb W (dOne (fun d => .ok (.bool (isNone d))) f)) := (pe_cmp (pc_isN ha) rfl).by fun σ H Q h => by
  obtain ⟨H0, O0, O, ρ, st, h⟩ := h
  refine ⟨H0, O0, O, ρ, st, Post.then h fun d v H1 e r k => ?_⟩
  have : decide (v = .non) = isNone d := by cases r <;> simp [isNone]
  rw [this]
  exact Post.here k (.bl _)
theorem fd_notN {j pos'} (ha : PE X a (tD X.K Tb W f)) : PE X (.Compare a [.IsNot] [.Constant .none j pos'] pos) (tD X.K Tb W (dOne (fun d => .ok (.bool (!isNone d))) f)) := (pe_cmp (pc_notN ha) rfl).by fun σ H Q h => by
  obtain ⟨H0, O0, O, ρ, st, h⟩ := h
  refine ⟨H0, O0, O, ρ, st, Post.then h fun d v H1 e r k => ?_⟩
  have : decide (v = .non) = isNone d := by cases r <;> simp [isNone]
  rw [this]
  exact Post.here k (.bl _)

/-! ### tests -/
/-- a test by an expression whose value is a bool -/
theorem ft_val (ha : PE X a (tD X.K Tb W f)) (he : ∀ whole, isTrue a X.env whole = (do let v ← whole; standAt a.pos; holding [v] (truthy v)) := by intro _; rfl) : PT X a (tDT X.K Tb W (dAsB f)) :=
  (pt_val ha he).by fun σ H Q ⟨H0, O0, O, ρ, st, h⟩ => ⟨H0, O0, O, ρ, st, (Post.asB h).mono fun b H1 q => q⟩
theorem ft_tru (ha : PE X a (tD X.K Tb W f)) (he : ∀ whole, isTrue a X.env whole = (do let v ← whole; standAt a.pos; holding [v] (truthy v)) := by intro _; rfl) : PT X a (tDT X.K Tb W (dTru f)) :=
  (pt_truth ha he).by fun σ H Q ⟨H0, O0, O, ρ, st, h⟩ => ⟨H0, O0, O, ρ, st, by
    refine Post.then h fun d v H1 e r k => ?_
    unfold truD at k
    split at k
    · cases r; exact ⟨_, rfl, k _ H1 (Ext.refl _) rfl⟩
    · cases r; exact ⟨_, rfl, k _ H1 (Ext.refl _) rfl⟩
    · cases r; exact ⟨_, rfl, k _ H1 (Ext.refl _) rfl⟩
    · cases r with
      | lst h1 z1 a1 =>
        refine ⟨_, .inl ⟨_, Sub.unhide.sqL h1, rfl⟩, k _ H1 (Ext.refl _) ?_⟩
        cases a1 <;> rfl
    · cases r with
      | tup h1 z1 a1 =>
        refine ⟨_, .inr (.inl ⟨_, Sub.unhide.sqT h1, rfl⟩), k _ H1 (Ext.refl _) ?_⟩
        cases a1 <;> rfl
    · exact k.elim⟩
variable {fb gb : DnB} {rest : List Expr}
theorem fw_and1 (ha : PT X a (tDT X.K Tb W fb)) : PW X (.BoolOp .And [a] pos) (tDT X.K Tb W fb) := pw_and1 ha
theorem fw_or1 (ha : PT X a (tDT X.K Tb W fb)) : PW X (.BoolOp .Or [a] pos) (tDT X.K Tb W fb) := pw_or1 ha
theorem fw_and (ha : PT X a (tDT X.K Tb W fb)) (hb : PW X (.BoolOp .And (b :: rest) pos) (tDT X.K Tb W gb)) : PW X (.BoolOp .And (a :: b :: rest) pos) (tDT X.K Tb W (dAnd fb gb)) :=
  (pw_and ha hb).by fun σ H Q ⟨H0, O0, O, ρ, st, h⟩ => ⟨H0, O0, O, ρ, st, by
    refine Post.then h fun d v H1 e r k => ?_
    cases (show v = d from r)
    cases d with
    | true => exact ⟨H0, O0, O, ρ, st.step e, k⟩
    | false => exact k _ H1 (Ext.refl _) rfl⟩
theorem fw_or (ha : PT X a (tDT X.K Tb W fb)) (hb : PW X (.BoolOp .Or (b :: rest) pos) (tDT X.K Tb W gb)) : PW X (.BoolOp .Or (a :: b :: rest) pos) (tDT X.K Tb W (dOr fb gb)) :=
  (pw_or ha hb).by fun σ H Q ⟨H0, O0, O, ρ, st, h⟩ => ⟨H0, O0, O, ρ, st, by
    refine Post.then h fun d v H1 e r k => ?_
    cases (show v = d from r)
    cases d with
    | false => exact ⟨H0, O0, O, ρ, st.step e, k⟩
    | true => exact k _ H1 (Ext.refl _) rfl⟩
theorem ft_not (ha : PT X a (tDT X.K Tb W fb)) : PT X (.UnaryOp .Not a pos) (tDT X.K Tb W (dNot fb)) := (pt_not ha).by fun σ H Q ⟨H0, O0, O, ρ, st, h⟩ => ⟨H0, O0, O, ρ, st, by
    refine Post.then h fun d v H1 e r k => ?_
    cases (show v = d from r)
    exact k _ H1 (Ext.refl _) rfl⟩
theorem fd_one {op} (h : PE X a (tD X.K Tb W f)) : PE X (.BoolOp op [a] pos) (tD X.K Tb W f) := pe_one h
theorem asB_of {d : PyData} {v : V} {α β : Type} {Rl : Hp → β → α → Prop} {k : Bool → R α} {Q : β → Hp → Prop} {G : Hp} (r : Rp K G v d) (h : Post K O Rl Wx H (asB d >>= k) Q) : ∃ b, v = .bl b ∧ Post K O Rl Wx H (k b) Q := by
  unfold asB at h
  split at h
  · cases r; exact ⟨_, rfl, h⟩
  · exact h.elim
theorem fd_and (ha : PE X a (tD X.K Tb W f)) (hb : PE X (.BoolOp .And (b :: rest) pos) (tD X.K Tb W g)) : PE X (.BoolOp .And (a :: b :: rest) pos) (tD X.K Tb W (dAndV f g)) :=
  (pe_and ha hb).by fun σ H Q ⟨H0, O0, O, ρ, st, h⟩ => ⟨H0, O0, O, ρ, st, by
    refine Post.then h fun d v H1 e r k => ?_
    obtain ⟨b, rfl, k⟩ := asB_of r k
    refine ⟨b, rfl, ?_⟩
    cases b with
    | true => exact ⟨H0, O0, O, ρ, st.step e, k⟩
    | false => exact Post.here k (.bl _)⟩
theorem fd_or (ha : PE X a (tD X.K Tb W f)) (hb : PE X (.BoolOp .Or (b :: rest) pos) (tD X.K Tb W g)) : PE X (.BoolOp .Or (a :: b :: rest) pos) (tD X.K Tb W (dOrV f g)) :=
  (pe_or ha hb).by fun σ H Q ⟨H0, O0, O, ρ, st, h⟩ => ⟨H0, O0, O, ρ, st, by
    refine Post.then h fun d v H1 e r k => ?_
    obtain ⟨b, rfl, k⟩ := asB_of r k
    refine ⟨b, rfl, ?_⟩
    cases b with
    | false => exact ⟨H0, O0, O, ρ, st.step e, k⟩
    | true => exact Post.here k (.bl _)⟩
theorem fd_not (ha : PE X a (tD X.K Tb W f)) : PE X (.UnaryOp .Not a pos) (tD X.K Tb W (dNotV f)) := (pe_not ha).by fun σ H Q ⟨H0, O0, O, ρ, st, h⟩ => ⟨H0, O0, O, ρ, st, by
    refine Post.then h fun d v H1 e r k => ?_
    obtain ⟨b, rfl, k⟩ := asB_of r k
    exact ⟨b, rfl, Post.here k (.bl _)⟩⟩
theorem fd_if (hc : PT X c (tDT X.K Tb W fb)) (ha : PE X a (tD X.K Tb W f)) (hb : PE X b (tD X.K Tb W g)) : PE X (.IfExp c a b pos) (tD X.K Tb W (dIf fb f g)) := (pe_ifExp hc ha hb).by fun σ H Q ⟨H0, O0, O, ρ, st, h⟩ => ⟨H0, O0, O, ρ, st, by
    refine Post.then h fun d v H1 e r k => ?_
    cases (show v = d from r)
    cases d with
    | true => exact ⟨H0, O0, O, ρ, st.step e, k⟩
    | false => exact ⟨H0, O0, O, ρ, st.step e, k⟩⟩

/-! ### subscripts and slices -/
theorem atI_rp {G : Hp} {vs : List V} {ds : List PyData} {i : Int} {d : PyData} (r : RpAll K G vs ds) (h : atI ds i = some d) : ∃ v, atI vs i = some v ∧ Rp K G v d := by
  unfold atI at h ⊢
  rw [r.length]
  cases e : ixN ds.length i with
  | none => rw [e] at h; cases h
  | some j =>
    rw [e] at h
    exact r.get' h
theorem ok_ix : Ok2 K (rIx K) oIx := by
  intro O H Wx x y d e Q al hx hy h
  unfold oIx at h
  split at h
  · cases hy
    cases hx with
    | lst h1 z1 a1 =>
      split at h
      · rename_i e
        obtain ⟨v, h2, h3⟩ := atI_rp a1 e
        exact .inl ⟨_, _, _, v, rfl, rfl, Sub.unhide.sqL h1, h2, Post.here h h3⟩
      · exact h.elim
  · cases hy
    cases hx with
    | tup h1 z1 a1 =>
      split at h
      · rename_i e
        obtain ⟨v, h2, h3⟩ := atI_rp a1 e
        exact .inr (.inl ⟨_, _, _, v, rfl, rfl, Sub.unhide.sqT h1, h2, Post.here h h3⟩)
      · exact h.elim
  · exact h.elim
theorem fd_ix (ha : PE X a (tD X.K Tb W f)) (hb : PE X b (tD X.K Tb W g)) (hs : PlainIx b) : PE X (.Subscript a b pos) (tD X.K Tb W (dTwo oIx f g)) := (pe_ix ix_seq ha hb hs).by fun σ H Q h => tD_two ok_ix h
def tDO (K : PySem.W.Frag) (Tb : List Addr) (W : WX) (f : DnO) : TO := fun σ H Q => ∃ H0 O0 O ρ, St0 K Tb H0 O0 O H σ ρ ∧ Post K O (fun _ (x : Option Int) y => x = y) (fun c d H => W c d σ H) H (f ρ) Q
theorem _root_.L2.PO.by {X : Cx} {e : Option Expr} {t t' : TO} (h : PO X e t) (i : ∀ σ H Q, t' σ H Q → t σ H Q) : PO X e t' := ⟨fun pins s σ H Q I q => h.run pins s σ H Q I (i σ H Q q)⟩
theorem fo_none : PO X none (tDO X.K Tb W dNoP) := PO.by po_none fun σ H Q ⟨_, _, _, _, _, h⟩ => h none H (Ext.refl _) rfl
theorem asI_of {d : PyData} {v : V} {α β : Type} {Rl : Hp → β → α → Prop} {k : Int → R α} {Q : β → Hp → Prop} {G : Hp} (r : Rp K G v d) (h : Post K O Rl Wx H (asI d >>= k) Q) : ∃ b, v = .int b ∧ Post K O Rl Wx H (k b) Q := by
  unfold asI at h
  split at h
  · cases r; exact ⟨_, rfl, h⟩
  · exact h.elim
theorem fo_some (ha : PE X a (tD X.K Tb W f)) : PO X (some a) (tDO X.K Tb W (dPart f)) := PO.by (po_some ha) fun σ H Q ⟨H0, O0, O, ρ, st, h⟩ => ⟨H0, O0, O, ρ, st, by
    refine Post.then h fun d v H1 e r k => ?_
    obtain ⟨b, rfl, k⟩ := asI_of r k
    exact ⟨b, rfl, k _ H1 (Ext.refl _) rfl⟩⟩
theorem cut_rp {G : Hp} {vs : List V} {ds : List PyData} (lo hi : Option Int) (r : RpAll K G vs ds) : RpAll K G (cutV vs lo hi) (cutD ds lo hi) := by
  unfold cutV cutD
  rw [r.length]
  exact (r.drop _).take _
theorem fd_cut {lo hi : Option Expr} {fl fh : DnO} {p2 : Pos} (ha : PE X a (tD X.K Tb W f)) (hl : PO X lo (tDO X.K Tb W fl)) (hh : PO X hi (tDO X.K Tb W fh)) : PE X (.Subscript a (.Slice lo hi none p2) pos) (tD X.K Tb W (dCut f fl fh)) :=
  (pe_slice (SlR.or sl_list sl_tupA) ha hl hh).by fun σ H Q ⟨H0, O0, O, ρ, st, h⟩ => ⟨H0, O0, O, ρ, st, by
    refine Post.then h fun d v H1 e r k => ?_
    refine ⟨H0, O0, O, ρ, st.step e, Post.then k fun l l' H2 e2 r2 k2 => ?_⟩
    cases (show l' = l from r2)
    refine ⟨H0, O0, O, ρ, (st.step e).step e2, Post.then k2 fun u u' H3 e3 r3 k3 => ?_⟩
    cases (show u' = u from r3)
    have r' := r.mono (Sub.hide (e2.trans e3).keep)
    have al := (((st.step e).step e2).step e3).al
    unfold oCut at k3
    split at k3
    · cases r' with
      | lst h1 z1 a1 => exact .inl ⟨_, _, rfl, Sub.unhide.sqL h1, Post.newLst al k3 (Nat.le_trans (cutD_length _ _ _) z1) (cut_rp _ _ a1)⟩
    · cases r' with
      | tup h1 z1 a1 =>
        refine .inr ⟨_, _, rfl, Sub.unhide.sqT h1, fun hw => ?_, fun _ => Post.newTup al k3 (Nat.le_trans (cutD_length _ _ _) z1) (cut_rp _ _ a1)⟩
        refine Post.here k3 ?_
        rw [a1.length] at hw
        unfold cutD
        rw [hw.1, hw.2, List.drop_zero, Nat.sub_zero, List.take_length]
        exact .tup h1 z1 a1
    · exact k3.elim⟩
end
end PD

set_option Elab.async false
set_option linter.all false
set_option maxRecDepth 100000
set_option maxHeartbeats 1000000
namespace PD
open PySem PySem.Spec PyProof.Rows L2

/-! ### built-in calls by data -/
def bLen : List PyData → R PyData
  | [d] => (items d) >>= fun xs => .ok (.int xs.length)
  | _ => .bad
def bInt : List PyData → R PyData
  | [.int i] => .ok (.int i)
  | [.bool b] => .ok (.int (if b then 1 else 0))
  | _ => .bad
def bAbs : List PyData → R PyData
  | [.int i] => .ok (.int (if i < 0 then -i else i))
  | _ => .bad
def bTuple : List PyData → R PyData
  | [d] => (items d) >>= fun xs => .ok (.tuple xs)
  | _ => .bad
def bList : List PyData → R PyData
  | [d] => (items d) >>= fun xs => .ok (.list xs)
  | _ => .bad
def asInts : List PyData → Option (List Int)
  | [] => some []
  | .int i :: r => (asInts r).map fun k => i :: k
  | _ :: _ => none
def asBools : List PyData → Option (List Bool)
  | [] => some []
  | .bool i :: r => (asBools r).map fun k => i :: k
  | _ :: _ => none
def ofO {α : Type} (x : Option α) (f : α → R PyData) : R PyData := match x with
  | some a => f a
  | none => .bad
def bSum : List PyData → R PyData
  | [.list xs] => ofO (asInts xs) fun ns => .ok (.int ns.sum)
  | _ => .bad
def maxI : List Int → Int
  | [] => 0
  | [x] => x
  | x :: r => max x (maxI r)
def minI : List Int → Int
  | [] => 0
  | [x] => x
  | x :: r => min x (minI r)
def bMax : List PyData → R PyData
  | [.list xs] => ofO (asInts xs) fun ns => if 0 < ns.length then .ok (.int (maxI ns)) else .bad
  | _ => .bad
def bMin : List PyData → R PyData
  | [.list xs] => ofO (asInts xs) fun ns => if 0 < ns.length then .ok (.int (minI ns)) else .bad
  | _ => .bad
def bMax2 : List PyData → R PyData
  | [.int i, .int j] => .ok (.int (if j > i then j else i))
  | _ => .bad
def bMin2 : List PyData → R PyData
  | [.int i, .int j] => .ok (.int (if j < i then j else i))
  | _ => .bad
def bAny : List PyData → R PyData
  | [.list xs] => ofO (asBools xs) fun ns => .ok (.bool (ns.any id))
  | _ => .bad
def bAll : List PyData → R PyData
  | [.list xs] => ofO (asBools xs) fun ns => .ok (.bool (ns.all id))
  | _ => .bad
/-- isinstance(x, T) of data: T one of int, bool, tuple, list, str -/
def isiD (T : String) : PyData → Option Bool
  | .none => kitB "NoneType" T
  | .bool _ => kitB "bool" T
  | .int _ => kitB "int" T
  | .str _ => kitB "str" T
  | .list _ => kitB "list" T
  | .tuple _ => kitB "tuple" T
  | .dict _ => none
def oIsi (T : String) (d : PyData) : R PyData := match isiD T d with
  | some b => .ok (.bool b)
  | none => .bad

theorem maxI_mem : ∀ {ns : List Int}, 0 < ns.length → maxI ns ∈ ns
  | [], h => by simp at h
  | [x], _ => by simp [maxI]
  | x :: y :: r, _ => by
    have ih := maxI_mem (ns := y :: r) (by simp)
    show max x (maxI (y :: r)) ∈ x :: y :: r
    rcases Int.le_total x (maxI (y :: r)) with h | h
    · rw [Int.max_eq_right h]; exact List.mem_cons_of_mem _ ih
    · rw [Int.max_eq_left h]; exact List.mem_cons_self
theorem le_maxI : ∀ {ns : List Int} {y : Int}, y ∈ ns → y ≤ maxI ns
  | [], _, h => by simp at h
  | [x], y, h => by simp at h; subst h; simp [maxI]
  | x :: z :: r, y, h => by
    show y ≤ max x (maxI (z :: r))
    rcases List.mem_cons.mp h with rfl | h
    · exact Int.le_max_left _ _
    · exact Int.le_trans (le_maxI h) (Int.le_max_right _ _)
theorem minI_mem : ∀ {ns : List Int}, 0 < ns.length → minI ns ∈ ns
  | [], h => by simp at h
  | [x], _ => by simp [minI]
  | x :: y :: r, _ => by
    have ih := minI_mem (ns := y :: r) (by simp)
    show min x (minI (y :: r)) ∈ x :: y :: r
    rcases Int.le_total x (minI (y :: r)) with h | h
    · rw [Int.min_eq_left h]; exact List.mem_cons_self
    · rw [Int.min_eq_right h]; exact List.mem_cons_of_mem _ ih
theorem minI_le : ∀ {ns : List Int} {y : Int}, y ∈ ns → minI ns ≤ y
  | [], _, h => by simp at h
  | [x], y, h => by simp at h; subst h; simp [minI]
  | x :: z :: r, y, h => by
    show min x (minI (z :: r)) ≤ y
    rcases List.mem_cons.mp h with rfl | h
    · exact Int.min_le_left _ _
    · exact Int.le_trans (Int.min_le_right _ _) (minI_le h)

section
variable {X : Cx} {Tb : List Addr} {W : WX} {K : PySem.W.Frag} {O : List Addr} {H : Hp} {σ : L2.St} {Wx : Value → Option Addr → Hp → Prop}
theorem ints_rp {G : Hp} : ∀ {vs : List V} {ds : List PyData} {ns : List Int}, RpAll K G vs ds → asInts ds = some ns → vs = ns.map V.int
  | _, _, _, .nil, h => by cases h; rfl
  | _, _, _, .cons (d := d) (ds := ds) r t, h => by
    cases r with
    | int i =>
      obtain ⟨k, e, rfl⟩ := Option.map_eq_some_iff.mp h
      rw [ints_rp t e]; rfl
    | _ => cases h
theorem bools_rp {G : Hp} : ∀ {vs : List V} {ds : List PyData} {ns : List Bool}, RpAll K G vs ds → asBools ds = some ns → vs = ns.map V.bl
  | _, _, _, .nil, h => by cases h; rfl
  | _, _, _, .cons (d := d) (ds := ds) r t, h => by
    cases r with
    | bl i =>
      obtain ⟨k, e, rfl⟩ := Option.map_eq_some_iff.mp h
      rw [bools_rp t e]; rfl
    | _ => cases h
theorem ofO_post {α : Type} {x : Option α} {f : α → R PyData} {Q : VK} (h : Post K O (RlD K O) Wx H (ofO x f) Q) : ∃ a, x = some a ∧ Post K O (RlD K O) Wx H (f a) Q := by
  cases x with
  | some a => exact ⟨a, rfl, h⟩
  | none => exact h.elim
theorem ok_len : OkL K (fun xs H Q => ∃ p ys, xs = [.ref p] ∧ (SqL K H p ys ∨ SqT K H p ys) ∧ Q (.int ys.length) H) bLen := by
  intro O H Wx vs ds Q al r h
  unfold bLen at h
  split at h
  · cases r with
    | cons r1 r2 =>
      cases r2
      unfold items at h
      split at h
      · cases r1 with
        | lst h1 z1 a1 => exact ⟨_, _, rfl, .inl (Sub.unhide.sqL h1), by rw [a1.length]; exact Post.here h (.int _)⟩
      · cases r1 with
        | tup h1 z1 a1 => exact ⟨_, _, rfl, .inr (Sub.unhide.sqT h1), by rw [a1.length]; exact Post.here h (.int _)⟩
      · exact h.elim
  · exact h.elim
theorem ok_int : OkL K (fun xs H Q => (∃ i, xs = [.int i] ∧ Q (.int i) H) ∨ ∃ k, xs = [.bl k] ∧ Q (.int (if k then 1 else 0)) H) bInt := by
  intro O H Wx vs ds Q al r h
  unfold bInt at h
  split at h
  · cases r with
    | cons r1 r2 => cases r2; cases r1; exact .inl ⟨_, rfl, Post.here h (.int _)⟩
  · cases r with
    | cons r1 r2 => cases r2; cases r1; exact .inr ⟨_, rfl, Post.here h (.int _)⟩
  · exact h.elim
theorem ok_abs : OkL K (fun xs H Q => ∃ i, xs = [.int i] ∧ Q (.int (if i < 0 then -i else i)) H) bAbs := by
  intro O H Wx vs ds Q al r h
  unfold bAbs at h
  split at h
  · cases r with
    | cons r1 r2 => cases r2; cases r1; exact ⟨_, rfl, Post.here h (.int _)⟩
  · exact h.elim
theorem ok_tuple : OkL K (fun xs H Q => ∃ p ys, xs = [.ref p] ∧ ((SqL K H p ys ∧ ∀ l, H l = none → Q (.ref l) (upd H l (.tup ys))) ∨ (SqT K H p ys ∧ Q (.ref p) H))) bTuple := by
  intro O H Wx vs ds Q al r h
  unfold bTuple at h
  split at h
  · cases r with
    | cons r1 r2 =>
      cases r2
      unfold items at h
      split at h
      · cases r1 with
        | lst h1 z1 a1 => exact ⟨_, _, rfl, .inl ⟨Sub.unhide.sqL h1, Post.newTup al h z1 a1⟩⟩
      · cases r1 with
        | tup h1 z1 a1 => exact ⟨_, _, rfl, .inr ⟨Sub.unhide.sqT h1, Post.here h (.tup h1 z1 a1)⟩⟩
      · exact h.elim
  · exact h.elim
theorem ok_list : OkL K (fun xs H Q => ∃ p ys, xs = [.ref p] ∧ (SqL K H p ys ∨ SqT K H p ys) ∧ ∀ l, H l = none → Q (.ref l) (upd H l (.lst ys))) bList := by
  intro O H Wx vs ds Q al r h
  unfold bList at h
  split at h
  · cases r with
    | cons r1 r2 =>
      cases r2
      unfold items at h
      split at h
      · cases r1 with
        | lst h1 z1 a1 => exact ⟨_, _, rfl, .inl (Sub.unhide.sqL h1), Post.newLst al h z1 a1⟩
      · cases r1 with
        | tup h1 z1 a1 => exact ⟨_, _, rfl, .inr (Sub.unhide.sqT h1), Post.newLst al h z1 a1⟩
      · exact h.elim
  · exact h.elim
/-- of a list of ints -/
theorem ok_ints {g : List Int → R PyData} {u : List PyData → R PyData} {r : List V → Hp → VK → Prop} (hu : ∀ ds, (∃ xs, ds = [.list xs] ∧ u ds = ofO (asInts xs) g) ∨ u ds = .bad)
    (k : ∀ (O : List Addr) (H : Hp) (Wx : Value → Option Addr → Hp → Prop) (a : Addr) (ns : List Int) (Q : VK), Al O H → SqL K H a (ns.map V.int) → Post K O (RlD K O) Wx H (g ns) Q → r [.ref a] H Q) : OkL K r u := by
  intro O H Wx vs ds Q al rp h
  rcases hu ds with ⟨xs, rfl, e⟩ | e
  · rw [e] at h
    obtain ⟨ns, en, h⟩ := ofO_post h
    cases rp with
    | cons r1 r2 =>
      cases r2
      cases r1 with
      | lst h1 z1 a1 =>
        have q := ints_rp a1 en
        subst q
        exact k O H Wx _ ns Q al (Sub.unhide.sqL h1) h
  · rw [e] at h
    exact h.elim
theorem ok_bools {g : List Bool → R PyData} {u : List PyData → R PyData} {r : List V → Hp → VK → Prop} (hu : ∀ ds, (∃ xs, ds = [.list xs] ∧ u ds = ofO (asBools xs) g) ∨ u ds = .bad)
    (k : ∀ (O : List Addr) (H : Hp) (Wx : Value → Option Addr → Hp → Prop) (a : Addr) (ns : List Bool) (Q : VK), Al O H → SqL K H a (ns.map V.bl) → Post K O (RlD K O) Wx H (g ns) Q → r [.ref a] H Q) : OkL K r u := by
  intro O H Wx vs ds Q al rp h
  rcases hu ds with ⟨xs, rfl, e⟩ | e
  · rw [e] at h
    obtain ⟨ns, en, h⟩ := ofO_post h
    cases rp with
    | cons r1 r2 =>
      cases r2
      cases r1 with
      | lst h1 z1 a1 =>
        have q := bools_rp a1 en
        subst q
        exact k O H Wx _ ns Q al (Sub.unhide.sqL h1) h
  · rw [e] at h
    exact h.elim
theorem ok_sum : OkL K (rSum K) bSum := ok_ints (fun ds => by unfold bSum; split; exact .inl ⟨_, rfl, rfl⟩; exact .inr rfl) fun O H Wx a ns Q al s h => ⟨a, ns, rfl, s, Post.here h (.int _)⟩
theorem ok_max : OkL K (rMax K) bMax := ok_ints (fun ds => by unfold bMax; split; exact .inl ⟨_, rfl, rfl⟩; exact .inr rfl) fun O H Wx a ns Q al s h => by
  by_cases hn : 0 < ns.length
  · rw [if_pos hn] at h
    refine ⟨a, ns, rfl, s, hn, fun m h1 h2 => ?_⟩
    have e : m = maxI ns := Int.le_antisymm (le_maxI h1) (h2 _ (maxI_mem hn))
    rw [e]
    exact Post.here h (.int _)
  · rw [if_neg hn] at h
    exact h.elim
theorem ok_min : OkL K (rMin K) bMin := ok_ints (fun ds => by unfold bMin; split; exact .inl ⟨_, rfl, rfl⟩; exact .inr rfl) fun O H Wx a ns Q al s h => by
  by_cases hn : 0 < ns.length
  · rw [if_pos hn] at h
    refine ⟨a, ns, rfl, s, hn, fun m h1 h2 => ?_⟩
    have e : m = minI ns := Int.le_antisymm (h2 _ (minI_mem hn)) (minI_le h1)
    rw [e]
    exact Post.here h (.int _)
  · rw [if_neg hn] at h
    exact h.elim
theorem ok_any : OkL K (rAny K) bAny := ok_bools (fun ds => by unfold bAny; split; exact .inl ⟨_, rfl, rfl⟩; exact .inr rfl) fun O H Wx a ns Q al s h => ⟨a, ns, rfl, s, Post.here h (.bl _)⟩
theorem ok_all : OkL K (rAll K) bAll := ok_bools (fun ds => by unfold bAll; split; exact .inl ⟨_, rfl, rfl⟩; exact .inr rfl) fun O H Wx a ns Q al s h => ⟨a, ns, rfl, s, Post.here h (.bl _)⟩
theorem ok_max2 : OkL K (fun xs H Q => ∃ i j, xs = [.int i, .int j] ∧ Q (.int (if j > i then j else i)) H) bMax2 := by
  intro O H Wx vs ds Q al r h
  unfold bMax2 at h
  split at h
  · cases r with
    | cons r1 r2 => cases r2 with
      | cons r2 r3 => cases r3; cases r1; cases r2; exact ⟨_, _, rfl, Post.here h (.int _)⟩
  · exact h.elim
theorem ok_min2 : OkL K (fun xs H Q => ∃ i j, xs = [.int i, .int j] ∧ Q (.int (if j < i then j else i)) H) bMin2 := by
  intro O H Wx vs ds Q al r h
  unfold bMin2 at h
  split at h
  · cases r with
    | cons r1 r2 => cases r2 with
      | cons r2 r3 => cases r3; cases r1; cases r2; exact ⟨_, _, rfl, Post.here h (.int _)⟩
  · exact h.elim

variable {x : Str} {p pos : Pos} {e : Expr} {es : List Expr} {g : DnL} {id T : String} {r : List V → Hp → VK → Prop} {u : List PyData → R PyData}
theorem fd_callB (hc : CallR X (.builtin id) r) (hk : OkL X.K r u) (hg : Gl X x) (hm : X.mg x = none) (hv : bootBuiltins x = some (.builtin id)) (ha : PA X (e :: es) (tDs X.K Tb W g)) (hn : x ≠ "__name__" := by decide) (hdb : (x == ("__debug__" : Str)) = false := by decide)
    (he : starEach (e :: es) X.env = (false, eval e X.env) :: starEach es X.env := by rfl) (hpl : (backTo pos (starEach es X.env)).any (·.1) = false := by rfl) : PE X (.Call (.Name x p) (e :: es) [] pos) (tD X.K Tb W (dArg u g)) :=
  (pe_callB hc hg hm hv ha hn hdb he hpl).by fun σ H Q h => tD_arg hk h
theorem fd_callTy (hc : CallR X (.type T) r) (hk : OkL X.K r u) (hg : Gl X x) (hm : X.mg x = none) (hv : bootBuiltins x = some (.type T)) (ha : PA X (e :: es) (tDs X.K Tb W g)) (hn : x ≠ "__name__" := by decide) (hdb : (x == ("__debug__" : Str)) = false := by decide)
    (he : starEach (e :: es) X.env = (false, eval e X.env) :: starEach es X.env := by rfl) (hpl : (backTo pos (starEach es X.env)).any (·.1) = false := by rfl) : PE X (.Call (.Name x p) (e :: es) [] pos) (tD X.K Tb W (dArg u g)) :=
  (pe_callTy hc hg hm hv ha hn hdb he hpl).by fun σ H Q h => tD_arg hk h
theorem tyX_rp {G : Hp} {v : V} {d : PyData} {T : String} {b : Bool} (r : Rp K H v d) (h : isiD T d = some b) : ∃ t, TyX K H v (.type t) ∧ PySem.W.kitOne K (.type t) (.type T) = some b := by
  unfold isiD at h
  cases r with
  | non => exact ⟨_, .base .non, kit_ty h⟩
  | bl b => exact ⟨_, .base (.bl b), kit_ty h⟩
  | int b => exact ⟨_, .base (.int b), kit_ty h⟩
  | str b => exact ⟨_, .base (.str b), kit_ty h⟩
  | lst h1 z a =>
    rcases h1 with (h1 | ⟨o, h1⟩) | ⟨o, its, n, h1, h2, _⟩
    · exact ⟨_, .base (.lst h1), kit_ty h⟩
    · exact ⟨_, .base (.frz h1), kit_ty h⟩
    · exact ⟨_, .kList h1 h2, kit_ty h⟩
  | tup h1 z a =>
    rcases h1 with (h1 | ⟨o, h1⟩) | ⟨o, its, n, h1, h2, _⟩
    · exact ⟨_, .base (.tup h1), kit_ty h⟩
    · exact ⟨_, .fTuple h1, kit_ty h⟩
    · exact ⟨_, .kTuple h1 h2, kit_ty h⟩
  | dct _ _ => cases h
/-- isinstance(x, T) -/
theorem fd_isi {f : Dn} {a : Expr} {y : Str} {py : Pos} (ha : PE X a (tD X.K Tb W f)) (hg : Gl X "isinstance") (hm : X.mg "isinstance" = none) (hgy : Gl X y) (hmy : X.mg y = none) (hvy : bootBuiltins y = some (.type T)) (hny : y ≠ "__name__" := by decide) (hdy : (y == ("__debug__" : Str)) = false := by decide)
    (he : starEach [a, .Name y py] X.env = (false, eval a X.env) :: starEach [.Name y py] X.env := by rfl) (he2 : starEach [.Name y py] X.env = (false, eval (.Name y py) X.env) :: starEach [] X.env := by rfl) (hpl : (backTo pos (starEach [.Name y py] X.env)).any (·.1) = false := by rfl) :
    PE X (.Call (.Name "isinstance" p) [a, .Name y py] [] pos) (tD X.K Tb W (dOne (oIsi T) f)) :=
  (pe_callB call_isi hg hm boot_isinstance (pa_cons ha (pa_cons (pe_bltn (v := .ty T) hgy hmy hvy rfl hny hdy) pa_nil he2) he) (by decide) (by decide) he hpl).by fun σ H Q ⟨H0, O0, O, ρ, st, h⟩ => ⟨H0, O0, O, ρ, st, by
    refine Post.then h fun d v H1 e r k => ?_
    unfold oIsi at k
    split at k
    · rename_i b hb
      obtain ⟨t, h1, h2⟩ := tyX_rp (G := H1) (r.mono Sub.unhide) hb
      exact ⟨v, .ty T, .type t, .type T, b, rfl, .ty T, h1, h2, Post.here k (.bl b)⟩
    · exact k.elim⟩
end
end PD

set_option Elab.async false
set_option linter.all false
set_option maxRecDepth 100000
set_option maxHeartbeats 1000000
namespace PD
open PySem PySem.Spec PyProof.Rows L2

/-! ### what is walked -/
structure ItD (K : PySem.W.Frag) (G : Hp) (J : It) (ds : List PyData) : Prop where
  len : ds.length ≤ sizeLine
  go : ∀ i H', Ext G H' → i < ds.length → J.go i H'
  yld : ∀ i H' (O' : List Addr) x H'', Ext G H' → (∀ b ∈ O', G b = none) → Al O' H' → i < ds.length → J.yld i H' x H'' → Ext H' H'' ∧ ∃ d, ds[i]? = some d ∧ Rp K (hide O' H'') x d
  stop : ∀ H', Ext G H' → J.stop ds.length H'
def tI (K : PySem.W.Frag) (Tb : List Addr) (W : WX) (f : DnL) : TI := fun σ H R => ∃ H0 O0 O ρ, St0 K Tb H0 O0 O H σ ρ ∧ Post K O (fun H' J ds => ItD K (hide O H') J ds) (fun c d H => W c d σ H) H (f ρ) R
theorem _root_.L2.PI.by {X : Cx} {tg iter : Expr} {t t' : TI} (h : PI X tg iter t) (i : ∀ σ H Q, t' σ H Q → t σ H Q) : PI X tg iter t' := ⟨fun pins s σ H Q I q => h.run pins s σ H Q I (i σ H Q q)⟩

theorem hide_idem {O : List Addr} {H : Hp} : hide O (hide O H) = hide O H := by
  funext b
  unfold hide
  split <;> rfl
section
variable {K : PySem.W.Frag} {G H H' H'' : Hp} {O O' : List Addr} {a : Addr} {ds : List PyData} {xs : List V}
theorem Ext.under (e : Ext G H') (n : ∀ b ∈ O', G b = none) : Sub G (hide O' H') := fun b o h h2 => by
  have hb : b ∉ O' := fun m => by rw [n b m] at h; cases h
  rw [hide_out hb]
  exact e.keep b o h h2
theorem itd_list (h : SqL K G a xs) (z : ds.length ≤ sizeLine) (r : RpAll K G xs ds) : ItD K G (Itl K a) ds where
  len := z
  go := fun i H' e hi => by
    have hx : i < xs.length := by rw [r.length]; exact hi
    exact ⟨xs, xs[i], (Sub.ext e).sqL h, List.getElem?_eq_getElem hx⟩
  yld := fun i H' O' x H'' e n al hi y => by
    obtain ⟨rfl, y⟩ := y
    have q := y xs ((Sub.ext e).sqL h)
    obtain ⟨d, h1, h2⟩ := r.get q
    exact ⟨Ext.refl _, d, h1, h2.mono (e.under n)⟩
  stop := fun H' e => ⟨xs, (Sub.ext e).sqL h, by rw [r.length]; exact Nat.le_refl _⟩
theorem itd_tup (h : SqT K G a xs) (z : ds.length ≤ sizeLine) (r : RpAll K G xs ds) : ItD K G (Itt K a) ds where
  len := z
  go := fun i H' e hi => by
    have hx : i < xs.length := by rw [r.length]; exact hi
    exact ⟨xs, xs[i], (Sub.ext e).sqT h, List.getElem?_eq_getElem hx⟩
  yld := fun i H' O' x H'' e n al hi y => by
    obtain ⟨rfl, y⟩ := y
    have q := y xs ((Sub.ext e).sqT h)
    obtain ⟨d, h1, h2⟩ := r.get q
    exact ⟨Ext.refl _, d, h1, h2.mono (e.under n)⟩
  stop := fun H' e => ⟨xs, (Sub.ext e).sqT h, by rw [r.length]; exact Nat.le_refl _⟩
/-- lo, lo + 1, .. -/
def rngD (lo : Int) (n : Nat) : List PyData := (List.range n).map fun i => .int (lo + (i : Nat))
theorem itd_rng {lo : Int} {n : Nat} (z : n ≤ sizeLine) : ItD K G (Itr lo n) (rngD lo n) where
  len := by unfold rngD; rw [List.length_map, List.length_range]; exact z
  go := fun i H' e hi => by
    unfold rngD at hi; rw [List.length_map, List.length_range] at hi; exact hi
  yld := fun i H' O' x H'' e n' al hi y => by
    obtain ⟨rfl, rfl⟩ := y
    unfold rngD at hi ⊢
    rw [List.length_map, List.length_range] at hi
    exact ⟨Ext.refl _, _, by rw [List.getElem?_map, List.getElem?_range hi]; rfl, .int _⟩
  stop := fun H' e => by
    unfold rngD
    rw [List.length_map, List.length_range]
    exact Nat.le_refl n
end
section
variable {X : Cx} {Tb : List Addr} {W : WX} {tg : Expr}
theorem pi_both {l : Expr} {tl : TE} (hl : PE X l tl) : PI X tg l (fun σ H R => tl σ H fun x H1 => ∃ a, x = .ref a ∧ (((∃ xs, SqL X.K H1 a xs) ∧ R (Itl X.K a) H1) ∨ ((∃ xs, SqT X.K H1 a xs) ∧ R (Itt X.K a) H1))) := by
  refine ⟨fun pins s σ H R I h => ?_⟩
  refine thn (hl.run pins s σ H _ I h) fun v s1 ⟨x, H1, I1, r1, q1⟩ => ?_
  obtain ⟨a, e, q | q⟩ := q1
  · have k : PI X tg (.Name "x" ⟨0, 0, 0, 0⟩) (fun _ H' R' => H' = H1 ∧ R' = R) → True := fun _ => trivial
    obtain ⟨⟨xs, hq⟩, q⟩ := q
    subst e
    cases r1
    obtain ⟨its, rv, p, hz⟩ := I1.list hq
    refine wpAny_pyIter_list p.isList ?_
    have f : FpOk X pins H1 s1.heap.objs.size := I1.fpOk (Nat.le_refl _) (I1.hok.fresh (Nat.le_refl _))
    exact ⟨s1.heap.objs.size, [s1.heap.objs.size], _, _, H1, rfl, I1.kept (t' := s1.toks) fun b o e => Heap.get?_push_of_some _ e, turn_list a _, ⟨_, Heap.get?_push_size _ rfl, rfl, rfl⟩, fun b hb => (List.mem_singleton.mp hb) ▸ f, q⟩
  · obtain ⟨⟨xs, hq⟩, q⟩ := q
    subst e
    cases r1
    obtain ⟨its, rv, p, hz⟩ := I1.tuple hq
    refine wpAny_pyIter_tuple (show s1.heap.IsTuple a its.toArray from p) ?_
    have f : FpOk X pins H1 s1.heap.objs.size := I1.fpOk (Nat.le_refl _) (I1.hok.fresh (Nat.le_refl _))
    exact ⟨s1.heap.objs.size, [s1.heap.objs.size], _, _, H1, rfl, I1.kept (t' := s1.toks) fun b o e => Heap.get?_push_of_some _ e, turn_tuple a _, ⟨_, Heap.get?_push_size _ rfl, rfl, rfl⟩, fun b hb => (List.mem_singleton.mp hb) ▸ f, q⟩
def dItems (f : Dn) : DnL := fun ρ => f ρ >>= items
theorem fi_seq {l : Expr} {f : Dn} (hl : PE X l (tD X.K Tb W f)) : PI X tg l (tI X.K Tb W (dItems f)) := (pi_both hl).by fun σ H R ⟨H0, O0, O, ρ, st, h⟩ => ⟨H0, O0, O, ρ, st, by
  refine Post.then h fun d v H1 e r k => ?_
  unfold items at k
  split at k
  · cases r with
    | lst h1 z1 a1 => exact ⟨_, rfl, .inl ⟨⟨_, Sub.unhide.sqL h1⟩, k _ H1 (Ext.refl _) (itd_list h1 z1 a1)⟩⟩
  · cases r with
    | tup h1 z1 a1 => exact ⟨_, rfl, .inr ⟨⟨_, Sub.unhide.sqT h1⟩, k _ H1 (Ext.refl _) (itd_tup h1 z1 a1)⟩⟩
  · exact k.elim⟩
def rngA1 : List PyData → R (List PyData)
  | [.int n] => if -(2 ^ 62) ≤ n ∧ n.toNat ≤ sizeLine then .ok (rngD 0 n.toNat) else .bad
  | _ => .bad
def rngA2 : List PyData → R (List PyData)
  | [.int a, .int b] => if (-(2 ^ 62) ≤ a ∧ a < 2 ^ 62 ∧ -(2 ^ 62) ≤ b ∧ b < 2 ^ 62) ∧ (b - a).toNat ≤ sizeLine then .ok (rngD a (b - a).toNat) else .bad
  | _ => .bad
def dRng1 (g : DnL) : DnL := fun ρ => g ρ >>= rngA1
def dRng2 (g : DnL) : DnL := fun ρ => g ρ >>= rngA2
theorem line62 : (sizeLine : Int) < 2 ^ 62 := by rw [sizeLine_eq]; decide
theorem fi_rng1 {a : Expr} {g : DnL} {p pos : Pos} (hg : Gl X "range") (hm : X.mg "range" = none) (ha : PA X [a] (tDs X.K Tb W g)) (hs : starEach [a] X.env = [(false, eval a X.env)] := by rfl) : PI X tg (.Call (.Name "range" p) [a] [] pos) (tI X.K Tb W (dRng1 g)) :=
  (pi_range1 hg hm ha hs).by fun σ H R' ⟨H0, O0, O, ρ, st, h⟩ => ⟨H0, O0, O, ρ, st, by
    refine Post.then h fun d v H1 e r k => ?_
    unfold rngA1 at k
    split at k
    · split at k
      · rename_i z
        cases r with
        | cons r1 r2 =>
          cases r2
          cases r1
          have := line62
          exact ⟨_, rfl, z.1, by omega, k _ H1 (Ext.refl _) (itd_rng z.2)⟩
      · exact k.elim
    · exact k.elim⟩
theorem fi_rng2 {a b : Expr} {g : DnL} {p pos : Pos} (hg : Gl X "range") (hm : X.mg "range" = none) (ha : PA X [a, b] (tDs X.K Tb W g)) (hs : starEach [a, b] X.env = [(false, eval a X.env), (false, eval b X.env)] := by rfl) (hs2 : starEach [b] X.env = [(false, eval b X.env)] := by rfl) :
    PI X tg (.Call (.Name "range" p) [a, b] [] pos) (tI X.K Tb W (dRng2 g)) :=
  (pi_range2 hg hm ha hs hs2).by fun σ H R' ⟨H0, O0, O, ρ, st, h⟩ => ⟨H0, O0, O, ρ, st, by
    refine Post.then h fun d v H1 e r k => ?_
    unfold rngA2 at k
    split at k
    · split at k
      · rename_i z
        cases r with
        | cons r1 r2 =>
          cases r2 with
          | cons r2 r3 =>
            cases r3
            cases r1
            cases r2
            exact ⟨_, _, rfl, z.1, k _ H1 (Ext.refl _) (itd_rng z.2)⟩
      · exact k.elim
    · exact k.elim⟩

/-! ### targets -/
inductive Tg where
  | nm (i : Nat)
  | tp (ts : List Tg)
mutual
def Tg.set : Tg → PyData → Rho → Option Rho
  | .nm i, d, ρ => some (ρ.set i (some (.d d)))
  | .tp ts, d, ρ => match d with
    | .tuple ds => Tg.sets ts ds ρ
    | _ => none
def Tg.sets : List Tg → List PyData → Rho → Option Rho
  | [], [], ρ => some ρ
  | t :: ts, d :: ds, ρ => (Tg.set t d ρ).bind fun ρ' => Tg.sets ts ds ρ'
  | _, _, _ => none
end
mutual
def Tg.ixs : Tg → List Nat
  | .nm i => [i]
  | .tp ts => Tg.ixss ts
def Tg.ixss : List Tg → List Nat
  | [] => []
  | t :: ts => Tg.ixs t ++ Tg.ixss ts
end
/-- but for the places is -/
def Agr (is : List Nat) (σ σ' : L2.St) : Prop := σ'.length = σ.length ∧ ∀ j, j ∉ is → σ'[j]? = σ[j]?
theorem Agr.refl (is : List Nat) (σ : L2.St) : Agr is σ σ := ⟨rfl, fun _ _ => rfl⟩
theorem Agr.trans {is js : List Nat} {σ σ1 σ2 : L2.St} (a : Agr is σ σ1) (b : Agr js σ1 σ2) : Agr (is ++ js) σ σ2 :=
  ⟨b.1.trans a.1, fun j h => by rw [List.mem_append, not_or] at h; rw [b.2 j h.2, a.2 j h.1]⟩
theorem wipe_in {σ : L2.St} {j : Nat} : ∀ {vs : List Nat}, j ∈ vs → j < σ.length → (wipe σ vs)[j]? = some none
  | v :: vs, h, hl => by
    unfold wipe
    by_cases e : v = j
    · subst e
      rw [List.getElem?_set_self (by rw [wipe_length]; exact hl)]
    · rw [List.getElem?_set_ne e]
      rcases List.mem_cons.mp h with h | h
      · exact absurd h.symm e
      · exact wipe_in h hl
theorem Agr.wipe {is vs : List Nat} {σ σ' : L2.St} (a : Agr is σ σ') (h : ∀ i ∈ is, i ∈ vs) : L2.wipe σ' vs = L2.wipe σ vs := by
  apply List.ext_getElem?
  intro j
  by_cases hj : j ∈ vs
  · by_cases hl : j < σ.length
    · rw [wipe_in hj hl, wipe_in hj (by rw [a.1]; exact hl)]
    · rw [List.getElem?_eq_none (by rw [wipe_length, a.1]; omega), List.getElem?_eq_none (by rw [wipe_length]; omega)]
  · rw [wipe_out hj, wipe_out hj, a.2 j fun m => hj (h j m)]
/-- a target: the value v, that reads as d, is stored -/
def tG (K : PySem.W.Frag) (Tb : List Addr) (t : Tg) : TG := fun v σ H Q => ∃ H0 O0 O ρ ρ' d, St0 K Tb H0 O0 O H σ ρ ∧ Rp K (hide O H) v d ∧ t.set d ρ = some ρ' ∧ ∀ σ', St0 K Tb H0 O0 O H σ' ρ' → Agr t.ixs σ σ' → Q σ' H
def tGs (K : PySem.W.Frag) (Tb : List Addr) (ts : List Tg) : TGs := fun vs σ H Q => ∃ H0 O0 O ρ ρ' ds, St0 K Tb H0 O0 O H σ ρ ∧ RpAll K (hide O H) vs ds ∧ Tg.sets ts ds ρ = some ρ' ∧ ∀ σ', St0 K Tb H0 O0 O H σ' ρ' → Agr (Tg.ixss ts) σ σ' → Q σ' H
theorem _root_.L2.PG.by {X : Cx} {tg : Expr} {t t' : TG} (h : PG X tg t) (i : ∀ v σ H Q, t' v σ H Q → t v σ H Q) : PG X tg t' := ⟨fun pins s σ H v u Q I r q => h.run pins s σ H v u Q I r (i v σ H Q q)⟩
theorem _root_.L2.PGs.by {X : Cx} {tg : List Expr} {t t' : TGs} (h : PGs X tg t) (i : ∀ v σ H Q, t' v σ H Q → t v σ H Q) : PGs X tg t' := ⟨fun pins s σ H v u Q I r q => h.run pins s σ H v u Q I r (i v σ H Q q)⟩
theorem St0.set {K : PySem.W.Frag} {H0 H : Hp} {O0 O : List Addr} {ρ : Rho} {σ : L2.St} {i : Nat} {v : V} {d : PyData} (st : St0 K Tb H0 O0 O H σ ρ) (r : Rp K (hide O H) v d) : St0 K Tb H0 O0 O H (σ.set i (some v)) (ρ.set i (some (.d d))) where
  ext := st.ext
  sub := st.sub
  new := st.new
  al := st.al
  tab := st.tab
  pln := st.pln
  len := by rw [List.length_set, List.length_set]; exact st.len
  slot := fun j x h => by
    by_cases e : i = j
    · subst e
      have hl : i < ρ.length := by
        have := (List.getElem?_eq_some_iff.mp h).1
        rw [List.length_set] at this
        exact this
      rw [List.getElem?_set_self hl] at h
      cases h
      exact ⟨v, by rw [List.getElem?_set_self (by rw [st.len]; exact hl)], r⟩
    · rw [List.getElem?_set_ne e] at h ⊢
      exact st.slot j x h
  inj := fun j k p xs ys hx hy h1 h2 h3 h4 => by
    by_cases e : i = j
    · subst e
      have hl : i < ρ.length := by
        have := (List.getElem?_eq_some_iff.mp h1).1
        rw [List.length_set] at this
        exact this
      rw [List.getElem?_set_self hl] at h1
      cases h1
      exact hx.elim
    · by_cases e2 : i = k
      · subst e2
        have hl : i < ρ.length := by
          have := (List.getElem?_eq_some_iff.mp h2).1
          rw [List.length_set] at this
          exact this
        rw [List.getElem?_set_self hl] at h2
        cases h2
        exact hy.elim
      · rw [List.getElem?_set_ne e] at h1 h3
        rw [List.getElem?_set_ne e2] at h2 h4
        exact st.inj j k p xs ys hx hy h1 h2 h3 h4
theorem fg_nm {i : Nat} {x : Str} {pos : Pos} (hN : X.N.Nodup) (hi : X.N[i]? = some x) (hx : Loc X.env.scope x) (hf : X.fn x = true ∨ X.env.scope.names.lookup x = some .local := by first | exact .inl rfl | exact .inr rfl | assumption) : PG X (.Name x pos) (tG X.K Tb (.nm i)) :=
  (pg_name hN hi hx hf).by fun v σ H Q ⟨H0, O0, O, ρ, ρ', d, st, r, e, q⟩ => by
    unfold Tg.set at e
    cases e
    refine q _ (st.set r) ⟨by rw [List.length_set], fun j hj => ?_⟩
    unfold Tg.ixs at hj
    rw [List.getElem?_set_ne (fun e => hj (by rw [e]; exact List.mem_singleton.mpr rfl))]
theorem fgs_nil : PGs X [] (tGs X.K Tb []) := pgs_nil.by fun v σ H Q ⟨H0, O0, O, ρ, ρ', ds, st, r, e, q⟩ => by
  cases r with
  | nil =>
    unfold Tg.sets at e
    cases e
    exact ⟨rfl, q _ st (Agr.refl _ _)⟩
  | cons _ _ => unfold Tg.sets at e; cases e
theorem fgs_cons {e : Expr} {es : List Expr} {t : Tg} {ts : List Tg} (h1 : PG X e (tG X.K Tb t)) (h2 : PGs X es (tGs X.K Tb ts))
    (hs : (assignEach (e :: es) X.env).map (·.2) = assign e X.env :: (assignEach es X.env).map (·.2) := by rfl) : PGs X (e :: es) (tGs X.K Tb (t :: ts)) := (pgs_cons h1 h2 hs).by fun v σ H Q ⟨H0, O0, O, ρ, ρ', ds, st, r, e, q⟩ => by
  cases r with
  | nil => unfold Tg.sets at e; cases e
  | @cons v vs d ds r1 r2 =>
    unfold Tg.sets at e
    cases e1 : Tg.set t d ρ with
    | none => rw [e1] at e; cases e
    | some ρ1 =>
      rw [e1] at e
      refine ⟨v, vs, rfl, H0, O0, O, ρ, ρ1, d, st, r1, e1, fun σ' st' ag => ?_⟩
      refine ⟨H0, O0, O, ρ1, ρ', ds, st', r2, e, fun σ2 st2 ag2 => q _ st2 ?_⟩
      unfold Tg.ixss
      exact ag.trans ag2
theorem fg_tup {es : List Expr} {k : Nat} {ts : List Tg} {pos : Pos} {n : Nat} (hc : X.calm = true) (h : PGs X es (tGs X.K Tb ts)) (hn : (assignEach es X.env).length = n := by rfl) (hst : (assignEach es X.env).findIdx? (·.1) = none := by rfl) (hl : ts.length = n := by rfl) :
    PG X (.Tuple es k pos) (tG X.K Tb (.tp ts)) := (pg_tup hc h hn hst).by fun v σ H Q ⟨H0, O0, O, ρ, ρ', d, st, r, e, q⟩ => by
  unfold Tg.set at e
  split at e
  · cases r with
    | tup h1 z1 a1 =>
      rename_i xs ds _
      have hlen : ∀ (ts : List Tg) (ds : List PyData) (ρ ρ' : Rho), Tg.sets ts ds ρ = some ρ' → ds.length = ts.length := by
        intro ts
        induction ts with
        | nil => intro ds ρ ρ' e; cases ds with
          | nil => rfl
          | cons _ _ => unfold Tg.sets at e; cases e
        | cons t ts ih => intro ds ρ ρ' e; cases ds with
          | nil => unfold Tg.sets at e; cases e
          | cons d ds =>
            unfold Tg.sets at e
            cases e1 : Tg.set t d ρ with
            | none => rw [e1] at e; cases e
            | some ρ1 =>
              rw [e1] at e
              rw [List.length_cons, List.length_cons, ih _ _ _ e]
      refine ⟨_, _, rfl, Sub.unhide.sqT h1, ?_, H0, O0, O, ρ, ρ', _, st, a1, e, fun σ' st' ag => q σ' st' ?_⟩
      · rw [a1.length, hlen _ _ _ _ e, hl]
      · unfold Tg.ixs
        exact ag
  · cases e
end
end PD

set_option Elab.async false
set_option linter.all false
set_option maxRecDepth 100000
set_option maxHeartbeats 1000000
namespace PD
open PySem PySem.Spec PyProof.Rows L2

/-! ### comprehensions -/
def nx {α β : Type} (x : R α) (k : α → R β) : R β := match x with
  | .ok a => k a
  | _ => .bad
theorem nx_ok {α β : Type} {x : R α} {k : α → R β} {b : β} (h : nx x k = .ok b) : ∃ a, x = .ok a ∧ k a = .ok b := by
  cases x with
  | ok a => exact ⟨a, rfl, h⟩
  | exc e => cases h
  | bad => cases h
@[simp] theorem nx_ok' {α β : Type} {a : α} {k : α → R β} : nx (.ok a) k = k a := rfl
def wipeR (ρ : Rho) : List Nat → Rho
  | [] => ρ
  | v :: vs => (wipeR ρ vs).set v none
def lcGo (t : Tg) (ft : DnB) (fe : Dn) (ρ : Rho) : List PyData → R (List PyData)
  | [] => .ok []
  | d :: ds => match t.set d ρ with
    | some ρ1 => nx (ft ρ1) fun b => if b = true then nx (fe ρ1) fun y => nx (lcGo t ft fe ρ ds) fun ys => .ok (y :: ys) else lcGo t ft fe ρ ds
    | none => .bad
def dLc (fi : DnL) (t : Tg) (ft : DnB) (fe : Dn) (vs : List Nat) : Dn := fun ρ => fi ρ >>= fun ds => nx (lcGo t ft fe (wipeR ρ vs) ds) fun ys => .ok (.list ys)
def W0 : WX := fun _ _ _ _ => False
def dYes : DnB := fun _ => .ok true

theorem wipeR_length (ρ : Rho) : ∀ vs : List Nat, (wipeR ρ vs).length = ρ.length
  | [] => rfl
  | v :: vs => by unfold wipeR; rw [List.length_set, wipeR_length ρ vs]
theorem wipeR_some {ρ : Rho} {i : Nat} {x : Sl} : ∀ {vs : List Nat}, (wipeR ρ vs)[i]? = some (some x) → ρ[i]? = some (some x) ∧ i ∉ vs
  | [], h => ⟨h, by simp⟩
  | v :: vs, h => by
    unfold wipeR at h
    by_cases hi : v = i
    · subst hi
      by_cases hv : v < (wipeR ρ vs).length
      · rw [List.getElem?_set_self hv] at h; cases h
      · rw [List.getElem?_eq_none (by simpa using hv)] at h; cases h
    · rw [List.getElem?_set_ne hi] at h
      obtain ⟨h1, h2⟩ := wipeR_some h
      exact ⟨h1, by simp only [List.mem_cons, not_or]; exact ⟨fun e => hi e.symm, h2⟩⟩
theorem wipe_wipe {σ : L2.St} {vs : List Nat} : L2.wipe (L2.wipe σ vs) vs = L2.wipe σ vs := by
  refine Agr.wipe (is := vs) ⟨wipe_length _ _, fun j h => wipe_out h⟩ fun _ h => h

section
variable {K : PySem.W.Frag} {Tb : List Addr} {H0 H H1 : Hp} {O0 O : List Addr} {ρ : Rho} {σ : L2.St} {D p : Addr} {o : HO}
theorem St0.wiped (st : St0 K Tb H0 O0 O H σ ρ) (vs : List Nat) : St0 K Tb H0 O0 O H (L2.wipe σ vs) (wipeR ρ vs) where
  ext := st.ext
  sub := st.sub
  new := st.new
  al := st.al
  tab := st.tab
  pln := st.pln
  len := by rw [wipe_length, wipeR_length]; exact st.len
  slot := fun i x h => by
    obtain ⟨h1, h2⟩ := wipeR_some h
    obtain ⟨v, h3, h4⟩ := st.slot i x h1
    exact ⟨v, by rw [wipe_out h2]; exact h3, h4⟩
  inj := fun i j p xs ys hx hy h1 h2 h3 h4 => by
    obtain ⟨a1, a2⟩ := wipeR_some h1
    obtain ⟨b1, b2⟩ := wipeR_some h2
    rw [wipe_out a2] at h3
    rw [wipe_out b2] at h4
    exact st.inj i j p xs ys hx hy a1 b1 h3 h4
theorem tabG_ne {H : Hp} {P p : Addr} (t : TabC H P) (h : ∀ ps, H p ≠ some (.tbl ps)) : P ≠ p := fun e => by
  obtain ⟨ps, q, _⟩ := t
  rw [e] at q
  exact h ps q
theorem Ext.updN (e : Ext H H1) (n : H D = none) (pl : ∀ c q, H1 D ≠ some (LamX.CodeO c q)) : Ext H (upd H1 D o) where
  keep := fun b x h t => by
    rw [upd_ne (ne_of_none h n)]
    exact e.keep b x h t
  tab := fun b t => by
    have hb : b ≠ D := tabG_ne t fun ps q => by rw [n] at q; cases q
    exact (e.tab b t).mono (fun ps h => by rw [upd_ne hb]; exact h) fun c q h => by rw [upd_ne fun z => pl c q (by rw [← z]; exact h)]; exact h
  al := fun b h => by
    by_cases hb : b = D
    · rw [hb, upd_same]; simp
    · rw [upd_ne hb]; exact e.al b h
theorem hide_upd (m : p ∈ O) : hide O (upd H p o) = hide O H := by
  funext b
  unfold hide
  by_cases hb : b ∈ O
  · rw [if_pos hb, if_pos hb]
  · rw [if_neg hb, if_neg hb, upd_ne (fun e => hb (by rw [e]; exact m))]
/-- a new hidden object -/
theorem St0.more (st : St0 K Tb H0 O0 O H σ ρ) (n : H D = none) (pl : Plain o) : St0 K Tb H0 O0 (D :: O) (upd H D o) σ ρ := by
  have n0 : H0 D = none := by
    cases q : H0 D with
    | none => rfl
    | some x => exact absurd n (st.ext.al D (by rw [q]; simp))
  have sub : Sub (hide O H) (hide (D :: O) (upd H D o)) := fun b x h t => by
    obtain ⟨h1, h2⟩ := hide_some h
    have hb : b ≠ D := ne_of_none h2 n
    rw [hide_out (by rw [List.mem_cons, not_or]; exact ⟨hb, h1⟩), upd_ne hb]
    exact h2
  refine ⟨st.ext.updN n0 (fun _ _ z => by rw [n] at z; cases z), fun b h => List.mem_cons_of_mem _ (st.sub b h), fun b h h2 => ?_, fun b h => ?_, fun P m => ?_, fun b m m2 => ?_, st.len, fun i x h => ?_, st.inj⟩
  · rcases List.mem_cons.mp h with rfl | h
    · exact n0
    · exact st.new b h h2
  · rcases List.mem_cons.mp h with rfl | h
    · rw [upd_same]; simp
    · by_cases hb : b = D
      · rw [hb, upd_same]; simp
      · rw [upd_ne hb]; exact st.al b h
  · exact (st.tab P m).mono (fun ps h => by rw [upd_ne (ne_of_none h n)]; exact h) fun c q h => by rw [upd_ne (ne_of_none h n)]; exact h
  · rcases List.mem_cons.mp m with rfl | m
    · exact ⟨o, upd_same, pl⟩
    · obtain ⟨x, h, q⟩ := st.pln b m m2
      exact ⟨x, by rw [upd_ne (ne_of_none h n)]; exact h, q⟩
  · obtain ⟨v, h1, h2⟩ := st.slot i x h
    exact ⟨v, h1, h2.mv sub (fun _ p _ m _ => ⟨List.mem_cons_of_mem _ m, fun o hp _ => by rw [upd_ne (ne_of_none hp n)]; exact hp⟩) fun dd fs h => by rw [upd_ne (ne_of_none h n)]; exact h⟩
/-- the hidden object at D, which no slot owns, is changed -/
theorem St0.hid (st : St0 K Tb H0 O0 O H σ ρ) (m : D ∈ O) (m0 : D ∉ O0) {l : List V} (hD : H D = some (.lst l)) (hs : ∀ (i : Nat) (s : Sl), s.Hold → ρ[i]? = some (some s) → σ[i]? ≠ some (some (.ref D))) {l' : List V} : St0 K Tb H0 O0 O (upd H D (.lst l')) σ ρ where
  ext := st.ext.updN (st.new D m m0) (fun c q z => by rw [hD] at z; exact (plain_lst l).1 c q (Option.some.inj z))
  sub := st.sub
  new := st.new
  al := fun b h => by
    by_cases hb : b = D
    · rw [hb, upd_same]; simp
    · rw [upd_ne hb]; exact st.al b h
  tab := fun P mp => by
    have hb : P ≠ D := tabG_ne (st.tab P mp) fun ps q => by rw [hD] at q; cases q
    exact (st.tab P mp).mono (fun ps h => by rw [upd_ne hb]; exact h) fun c q h => by
      rw [upd_ne fun z => (plain_lst l).1 c q (Option.some.inj (hD.symm.trans (by rw [← z]; exact h)))]
      exact h
  pln := fun b mb nb => by
    by_cases hb : b = D
    · exact ⟨_, by rw [hb]; exact upd_same, plain_lst l'⟩
    · obtain ⟨x, h, q⟩ := st.pln b mb nb
      exact ⟨x, by rw [upd_ne hb]; exact h, q⟩
  len := st.len
  slot := fun i x h => by
    obtain ⟨v, h1, h2⟩ := st.slot i x h
    refine ⟨v, h1, h2.mv (by rw [hide_upd m]; exact fun _ _ h _ => h) (fun hx p ev mp _ => ⟨mp, fun o hp _ => ?_⟩) fun dd fs h => ?_⟩
    · have hne : p ≠ D := fun e => hs i x hx h (by rw [h1, ev, e])
      rw [upd_ne hne]; exact hp
    · rw [upd_ne (fun e => by rw [e, hD] at h; cases h)]; exact h
  inj := st.inj
theorem Ext.unhide : Ext (hide O H) H where
  keep := Sub.unhide
  tab := fun b t => t.mono (fun ps h => (hide_some h).2) fun c q h => (hide_some h).2
  al := fun b h => by
    cases q : hide O H b with
    | none => exact absurd q h
    | some x => rw [(hide_some q).2]; simp
theorem hide_in {b : Addr} (h : b ∈ O) : hide O H b = none := by unfold hide; rw [if_pos h]
theorem hide_none {b : Addr} (h : H b = none) : hide O H b = none := by unfold hide; split <;> first | rfl | exact h
end

section
variable {X : Cx} {Tb : List Addr} {W : WX}
theorem ft_yes : PTs X [] (tDT X.K Tb W dYes) := ⟨fun pins s σ H Q I ⟨_, _, _, _, _, h⟩ => pts_nil.run pins s σ H Q I (h true H (Ext.refl _) rfl)⟩
theorem ft_one {c : Expr} {f : DnB} (h : PT X c (tDT X.K Tb W f)) : PTs X [c] (tDT X.K Tb W f) := pts_one h

/-- the turns of a comprehension's block -/
theorem lc_turns {K : PySem.W.Frag} {t : Tg} {ft : DnB} {fe : Dn} {vs : List Nat} {σ : L2.St} {ρ : Rho} {H0 H1 : Hp} {O0 O : List Addr} {J : It} {ds ys : List PyData} {Q : VK} (hv : ∀ i ∈ t.ixs, i ∈ vs)
    (st1 : St0 K Tb H0 O0 O H1 σ ρ) (it : ItD K (hide O H1) J ds) (hys : lcGo t ft fe (wipeR ρ vs) ds = .ok ys)
    (fin : ∀ D acc H', Ext H1 H' → H1 D = none → H' D = some (.lst acc) → ys.length ≤ sizeLine → RpAll K (hide (D :: O) H') acc ys → Q (.ref D) H') :
    ∀ D, H1 D = none → ∃ W : Nat → Nat → Hp → Prop, (∃ m, W 0 m (upd H1 D (.lst []))) ∧ ∀ i m H, W i m H →
      (J.stop i H ∧ Q (.ref D) H) ∨ (J.go i H ∧ ∃ Nx : Hp → Prop, (∀ H', Nx H' → ∃ m', m' < m ∧ W (i + 1) m' H') ∧ ∀ x H', J.yld i H x H' → tG K Tb t x (L2.wipe σ vs) H' fun σ2 H2 => L2.wipe σ2 vs = L2.wipe σ vs ∧ tDT K Tb W0 ft σ2 H2 fun b H3 =>
        if b = true then tD K Tb W0 fe σ2 H3 fun y H4 => ∃ acc, H4 D = some (.lst acc) ∧ acc.length < sizeLine ∧ Nx (upd H4 D (.lst (acc ++ [y]))) else Nx H3) := by
  intro D nD
  have aD : D ∉ O := st1.fresh nD
  have stw := (st1.wiped vs).more (o := .lst []) nD (plain_lst [])
  have aD0 : D ∉ O0 := fun m => aD (st1.sub D m)
  have own : ∀ (i : Nat) (s : Sl), s.Hold → (wipeR ρ vs)[i]? = some (some s) → (L2.wipe σ vs)[i]? ≠ some (some (.ref D)) := fun i s hs h1 h2 => aD ((st1.wiped vs).hold hs h1 h2).1
  have nO : ∀ b ∈ D :: O, hide O H1 b = none := fun b hb => by
    rcases List.mem_cons.mp hb with rfl | hb
    · exact hide_none nD
    · exact hide_in hb
  refine ⟨fun i m H' => i ≤ ds.length ∧ m = ds.length - i ∧ ∃ acc accD rest, St0 K Tb H0 O0 (D :: O) H' (L2.wipe σ vs) (wipeR ρ vs) ∧ Ext H1 H' ∧ H' D = some (.lst acc) ∧ RpAll K (hide (D :: O) H') acc accD ∧ acc.length ≤ i ∧ lcGo t ft fe (wipeR ρ vs) (ds.drop i) = .ok rest ∧ accD ++ rest = ys,
    ⟨ds.length, Nat.zero_le _, by simp, [], [], ys, stw, Ext.new nD, upd_same, .nil, Nat.le_refl _, hys, rfl⟩, ?_⟩
  rintro i m H' ⟨hi, rfl, acc, accD, rest, s1, e1, hD, ra, la, go, ey⟩
  have eG : Ext (hide O H1) H' := Ext.unhide.trans e1
  by_cases hlt : i < ds.length
  · refine .inr ⟨it.go i H' eG hlt, fun H2 => i + 1 ≤ ds.length ∧ ∃ acc accD rest, St0 K Tb H0 O0 (D :: O) H2 (L2.wipe σ vs) (wipeR ρ vs) ∧ Ext H1 H2 ∧ H2 D = some (.lst acc) ∧ RpAll K (hide (D :: O) H2) acc accD ∧ acc.length ≤ i + 1 ∧ lcGo t ft fe (wipeR ρ vs) (ds.drop (i + 1)) = .ok rest ∧ accD ++ rest = ys,
      fun H2 q => ⟨ds.length - (i + 1), by omega, q.1, rfl, q.2⟩, fun x H2 y => ?_⟩
    obtain ⟨e2, d, hd, rx⟩ := it.yld i H' (D :: O) x H2 eG nO s1.al hlt y
    have hdr : ds.drop i = d :: ds.drop (i + 1) := by
      obtain ⟨hl, hd'⟩ := List.getElem?_eq_some_iff.mp hd
      rw [List.drop_eq_getElem_cons hl, hd']
    rw [hdr] at go
    unfold lcGo at go
    cases et : t.set d (wipeR ρ vs) with
    | none => rw [et] at go; cases go
    | some ρ1 =>
      rw [et] at go
      obtain ⟨b, eb, go⟩ := nx_ok go
      have s2 := s1.step e2
      refine ⟨H0, O0, D :: O, wipeR ρ vs, ρ1, d, s2, rx, et, fun σ' st' ag => ⟨(ag.wipe hv).trans wipe_wipe, H0, O0, D :: O, ρ1, st', ?_⟩⟩
      rw [eb]
      intro b' H3 e3 r3
      cases (show b' = b from r3)
      have s3 := st'.step e3
      cases b with
      | false =>
        refine ⟨hlt, acc, accD, rest, s2.step e3, (e1.trans e2).trans e3, (e2.trans e3).keep D _ hD (fun _ q => by cases q), ra.mono (Sub.hide (e2.trans e3).keep), Nat.le_succ_of_le la, go, ey⟩
      | true =>
        obtain ⟨yd, ey1, go⟩ := nx_ok go
        obtain ⟨rs, er, go⟩ := nx_ok go
        cases go
        refine ⟨H0, O0, D :: O, ρ1, s3, ?_⟩
        rw [ey1]
        intro y H4 e4 r4
        have hD4 := ((e2.trans e3).trans e4).keep D _ hD (fun _ q => by cases q)
        have s4 := (s2.step e3).step e4
        have zl : acc.length < sizeLine := by have := it.len; omega
        refine ⟨acc, hD4, zl, hlt, acc ++ [y], accD ++ [yd], rs, s4.hid List.mem_cons_self aD0 hD4 own, (((e1.trans e2).trans e3).trans e4).updN nD (fun c q z => (plain_lst acc).1 c q (Option.some.inj (hD4.symm.trans z))), upd_same, ?_, ?_, er, ?_⟩
        · rw [hide_upd List.mem_cons_self]
          exact (ra.mono (Sub.hide ((e2.trans e3).trans e4).keep)).append (.one r4)
        · rw [List.length_append]; simp; exact la
        · rw [List.append_assoc]; exact ey
  · have ei : i = ds.length := by omega
    subst ei
    refine .inl ⟨it.stop H' eG, ?_⟩
    rw [List.drop_length] at go
    cases go
    rw [List.append_nil] at ey
    subst ey
    refine fin D acc H' e1 nD hD ?_ ra
    have := it.len
    have := ra.length
    omega
/-- the walk of a comprehension's block -/
theorem lc_walk {K : PySem.W.Frag} {t : Tg} {ft : DnB} {fe : Dn} {fi : DnL} {vs : List Nat} {σ : L2.St} {H : Hp} {Q : VK} (hv : ∀ i ∈ t.ixs, i ∈ vs) (h : tD K Tb W (dLc fi t ft fe vs) σ H Q) :
    tLc (tI K Tb W fi) (tG K Tb t) (tDT K Tb W0 ft) (tD K Tb W0 fe) vs σ H Q := by
  obtain ⟨H0, O0, O, ρ, st, h⟩ := h
  refine ⟨H0, O0, O, ρ, st, Post.then h fun ds J H1 e it k => ?_⟩
  cases q : lcGo t ft fe (wipeR ρ vs) ds with
  | exc x => rw [q] at k; exact k.elim
  | bad => rw [q] at k; exact k.elim
  | ok ys =>
    rw [q] at k
    refine lc_turns hv (st.step e) it q fun D acc H' e1 nD hD z ra => ?_
    have aD : D ∉ O := (st.step e).fresh nD
    exact k _ H' e1 (.lst (.of (by rw [hide_out aD]; exact hD)) z (ra.mono (Sub.less fun b hb => List.mem_cons_of_mem _ hb)))
/-- [e for t in i if c] -/
theorem fd_lc {elt tg iter : Expr} {ifs : List Expr} {scope : Scope} {own : List (Str × Nat)} {pos : Pos} {fi : DnL} {t : Tg} {ft : DnB} {fe : Dn} (hc : X.calm = true) (hN : X.N.Nodup) (hi : PI X tg iter (tI X.K Tb W fi)) (ok : BlkOk X.N X.env.scope scope own)
    (hg : ∀ (s : Shared) (H : Hp) (C : Addr) (cl : List (Str × Addr)) (fp : List Addr), PG (X.blk s H scope (compEnvC scope cl C X.env) fp) tg (tG X.K Tb t))
    (ht : ∀ (s : Shared) (H : Hp) (C : Addr) (cl : List (Str × Addr)) (fp : List Addr), PTs (X.blk s H scope (compEnvC scope cl C X.env) fp) ifs (tDT X.K Tb W0 ft))
    (he : ∀ (s : Shared) (H : Hp) (C : Addr) (cl : List (Str × Addr)) (fp : List Addr), PE (X.blk s H scope (compEnvC scope cl C X.env) fp) elt (tD X.K Tb W0 fe))
    (hv : ∀ i ∈ t.ixs, i ∈ own.map (·.2) := by decide) (hs : ∀ x, foldedSetIterable iter X.env x = pure x := by intro _; rfl) : PE X (.ListComp elt [⟨tg, iter, ifs, 0⟩] scope pos) (tD X.K Tb W (dLc fi t ft fe (own.map (·.2)))) :=
  (pe_lc hc hN hi ok hg ht he hs).by fun σ H Q h => lc_walk hv h
end
end PD

set_option Elab.async false
set_option linter.all false
set_option maxRecDepth 100000
set_option maxHeartbeats 1000000
namespace PD
open PySem PySem.Spec PyProof.Rows L2

/-! ### statements -/
inductive Out where
  | nx (ρ : Rho)
  | rt (d : PyData)
  | bk (ρ : Rho)
  | ct (ρ : Rho)
  | exc (e : Ex) (ρ : Rho)
  | bad
abbrev Sn := Rho → Out
def PostS (K : PySem.W.Frag) (Tb : List Addr) (W : WX) (H0 : Hp) (O0 : List Addr) (out : Out) (D : Ends) : Prop := match out with
  | .nx ρ => ∀ O σ H, St0 K Tb H0 O0 O H σ ρ → D.nx σ H
  | .rt d => ∀ v H, Ext H0 H → Rp K (hide O0 H) v d → D.rt v H
  | .bk ρ => ∀ O σ H, St0 K Tb H0 O0 O H σ ρ → D.bk σ H
  | .ct ρ => ∀ O σ H, St0 K Tb H0 O0 O H σ ρ → D.ct σ H
  | .exc e ρ => ∀ O σ H c d, St0 K Tb H0 O0 O H σ ρ → ExR K (hide O H) H c d e → W c d σ H
  | .bad => False
def tS (K : PySem.W.Frag) (Tb : List Addr) (W : WX) (g : Sn) : TS := fun D σ H => ∃ H0 O0 O ρ, St0 K Tb H0 O0 O H σ ρ ∧ PostS K Tb W H0 O0 (g ρ) D
/-- a result, then a statement's end -/
def oR {α : Type} (x : R α) (ρ : Rho) (k : α → Out) : Out := match x with
  | .ok a => k a
  | .exc e => .exc e ρ
  | .bad => .bad
def oO (x : Option Rho) : Out := match x with
  | some ρ => .nx ρ
  | none => .bad
def gSkip : Sn := .nx
def gSeq (g h : Sn) : Sn := fun ρ => match g ρ with
  | .nx ρ' => h ρ'
  | o => o
def gSet (f : Dn) (t : Tg) : Sn := fun ρ => oR (f ρ) ρ fun d => oO (t.set d ρ)
def gExpr (f : Dn) : Sn := fun ρ => oR (f ρ) ρ fun _ => .nx ρ
def gRet (f : Dn) : Sn := fun ρ => oR (f ρ) ρ .rt
def gRetN : Sn := fun _ => .rt .none
def gIf (c : DnB) (g h : Sn) : Sn := fun ρ => oR (c ρ) ρ fun b => if b = true then g ρ else h ρ
def gBrk : Sn := .bk
def gCnt : Sn := .ct
def forGo (t : Tg) (g : Sn) : List PyData → Rho → Out
  | [], ρ => .nx ρ
  | d :: ds, ρ => match t.set d ρ with
    | some ρ1 => match g ρ1 with
      | .nx ρ2 => forGo t g ds ρ2
      | .ct ρ2 => forGo t g ds ρ2
      | .bk ρ2 => .nx ρ2
      | o => o
    | none => .bad
def gFor (fi : DnL) (t : Tg) (g : Sn) : Sn := fun ρ => oR (fi ρ) ρ fun ds => forGo t g ds ρ
def whGo (c : DnB) (g : Sn) : Nat → Rho → Out
  | 0, _ => .bad
  | n + 1, ρ => oR (c ρ) ρ fun b => if b = true then (match g ρ with
      | .nx ρ2 => whGo c g n ρ2
      | .ct ρ2 => whGo c g n ρ2
      | .bk ρ2 => .nx ρ2
      | o => o) else .nx ρ
def gWhile (c : DnB) (g : Sn) (fuel : Rho → Nat) : Sn := fun ρ => whGo c g (fuel ρ) ρ
/-- the list that slot i owns becomes a plain datum -/
def frz (i : Nat) (ρ : Rho) : Option Rho := match ρ[i]? with
  | some (some (.own ds)) => some (ρ.set i (some (.d (.list ds))))
  | _ => none
def frzD (i : Nat) (ρ : Rho) : Option Rho := match ρ[i]? with
  | some (some (.dct ks)) => some (ρ.set i (some (.d (.dict (ks.map fun k => (.tuple (k.map .int), .bool true))))))
  | _ => none
def gFrzD (i : Nat) (g : Sn) : Sn := fun ρ => match frzD i ρ with
  | some ρ' => g ρ'
  | none => .bad
def gFrz (i : Nat) (g : Sn) : Sn := fun ρ => match frz i ρ with
  | some ρ' => g ρ'
  | none => .bad
/-- slot i owns a new list -/
def gOwn (f : Dn) (i : Nat) : Sn := fun ρ => oR (f ρ) ρ fun d => match d with
  | .list ds => .nx (ρ.set i (some (.own ds)))
  | _ => .bad
def ownAt (ρ : Rho) (i : Nat) (k : List PyData → Out) : Out := match ρ[i]? with
  | some (some (.own ds)) => k ds
  | _ => .bad
def gApp (i : Nat) (f : Dn) : Sn := fun ρ => ownAt ρ i fun ds => oR (f ρ) ρ fun d => if ds.length < sizeLine then .nx (ρ.set i (some (.own (ds ++ [d])))) else .bad
def thaw (ρ : Rho) : Rho := ρ.map fun s => match s with
  | some (.own ds) => some (.d (.list ds))
  | some (.dct ks) => some (.d (.dict (ks.map fun k => (.tuple (k.map .int), .bool true))))
  | s => s
def dThawB (f : DnB) : DnB := fun ρ => nx (f (thaw ρ)) .ok
def flat : PyData → Bool
  | .none => true
  | .bool _ => true
  | .int _ => true
  | .str _ => true
  | _ => false
def dThaw (f : Dn) : Dn := fun ρ => nx (f (thaw ρ)) fun d => if flat d = true then .ok d else .bad

section
variable {K : PySem.W.Frag} {Tb : List Addr} {W : WX} {H0 H0' H H' : Hp} {O0 O : List Addr} {ρ : Rho} {σ : L2.St} {p : Addr} {D : Ends}
theorem St0.init {vs : List V} {ds : List PyData} (n : Nat) (al : Al O H) (tb : ∀ P ∈ Tb, TabC H P) (r : RpAll K (hide O H) vs ds) : St0 K Tb H O O H (vs.map some ++ List.replicate n none) (ds.map (fun d => some (.d d)) ++ List.replicate n none) where
  ext := Ext.refl H
  sub := fun _ h => h
  new := fun b h h2 => absurd h h2
  al := al
  tab := tb
  pln := fun b m n => absurd m n
  len := by simp [r.length]
  slot := fun i s h => by
    have hi : i < ds.length := by
      by_cases hi : i < ds.length
      · exact hi
      · rw [List.getElem?_append_right (by simpa using hi), List.getElem?_replicate] at h
        split at h <;> cases h
    rw [List.getElem?_append_left (by simpa using hi), List.getElem?_map] at h
    cases e : ds[i]? with
    | none => rw [e] at h; cases h
    | some d =>
      rw [e] at h
      cases h
      obtain ⟨v, h1, h2⟩ := r.get' e
      refine ⟨v, ?_, h2⟩
      have hl : i < vs.length := by rw [r.length]; exact hi
      rw [List.getElem?_append_left (by simpa using hl), List.getElem?_map, h1]
      rfl
  inj := fun i j p xs ys hx _ h1 _ _ _ => by
    have hi : i < ds.length := by
      by_cases hi : i < ds.length
      · exact hi
      · rw [List.getElem?_append_right (by simpa using hi), List.getElem?_replicate] at h1
        split at h1 <;> cases h1
    rw [List.getElem?_append_left (by simpa using hi), List.getElem?_map] at h1
    cases e : ds[i]? with
    | none => rw [e] at h1; cases h1
    | some d => rw [e] at h1; cases h1; exact hx.elim

/-! #### another entry -/
def rebase (O0 O : List Addr) (H : Hp) : Hp := hide (O.filter fun b => decide (b ∉ O0)) H
theorem mem_rebase {b : Addr} : b ∈ (O.filter fun b => decide (b ∉ O0)) ↔ b ∈ O ∧ b ∉ O0 := by
  rw [List.mem_filter, decide_eq_true_eq]
theorem St0.rebase (st : St0 K Tb H0 O0 O H σ ρ) : St0 K Tb (rebase O0 O H) O0 O H σ ρ :=
  ⟨Ext.unhide, st.sub, fun b h h2 => hide_in (mem_rebase.mpr ⟨h, h2⟩), st.al, st.tab, st.pln, st.len, st.slot, st.inj⟩
theorem St0.baseExt (st : St0 K Tb H0 O0 O H σ ρ) : Ext H0 (PD.rebase O0 O H) := by
  have out : ∀ b, H0 b ≠ none → PD.rebase O0 O H b = H b := fun b h => hide_out fun m => by
    obtain ⟨h1, h2⟩ := mem_rebase.mp m
    exact h (st.new b h1 h2)
  refine ⟨fun b o h t => ?_, fun b t => ?_, fun b h => ?_⟩
  · rw [out b (by rw [h]; simp)]
    exact st.ext.keep b o h t
  · refine (st.ext.tab b t).mono (fun ps h => ?_) fun c q h => ?_
    · obtain ⟨ps0, h0, _⟩ := t
      rw [out b (by rw [h0]; simp)]
      exact h
    · refine (hide_out fun m => ?_).trans h
      obtain ⟨m1, m2⟩ := mem_rebase.mp m
      obtain ⟨x, g1, g2⟩ := st.pln c m1 m2
      rw [h] at g1
      exact g2.1 c q (Option.some.inj g1).symm
  · rw [out b h]
    exact st.ext.al b h
theorem St0.unbase {O' : List Addr} {σ' : L2.St} {ρ' : Rho} (e : Ext H0 H0') (st : St0 K Tb H0' O0 O' H' σ' ρ') : St0 K Tb H0 O0 O' H' σ' ρ' :=
  ⟨e.trans st.ext, st.sub, fun b h h2 => by
    cases q : H0 b with
    | none => rfl
    | some x => exact absurd (st.new b h h2) (e.al b (by rw [q]; simp)), st.al, st.tab, st.pln, st.len, st.slot, st.inj⟩
theorem PostS.rebase {out : Out} (e : Ext H0 H0') (h : PostS K Tb W H0 O0 out D) : PostS K Tb W H0' O0 out D := by
  cases out with
  | nx ρ => exact fun O σ H st => h O σ H (st.unbase e)
  | bk ρ => exact fun O σ H st => h O σ H (st.unbase e)
  | ct ρ => exact fun O σ H st => h O σ H (st.unbase e)
  | rt d => exact fun v H e' r => h v H (e.trans e') r
  | exc x ρ => exact fun O σ H c d st => h O σ H c d (st.unbase e)
  | bad => exact h
theorem oR_post {α β : Type} {Rl : Hp → β → α → Prop} {x : R α} {k : α → Out} {Q : β → Hp → Prop} (st : St0 K Tb H0 O0 O H σ ρ) (h : PostS K Tb W H0 O0 (oR x ρ k) D)
    (q : ∀ a b H1, Ext H H1 → Rl H1 b a → PostS K Tb W H0 O0 (k a) D → Q b H1) : Post K O Rl (fun c d H => W c d σ H) H x Q := by
  cases x with
  | ok a => exact fun b H1 e r => q a b H1 e r h
  | exc e => exact fun c d H1 ex r => h O σ H1 c d (st.step ex) r
  | bad => exact h

/-! #### own lists -/
/-- a list that slot i owns changes -/
theorem St0.ownSet {i : Nat} {ds ds' : List PyData} {vs' : List V} (st : St0 K Tb H0 O0 O H σ ρ) (hi : ρ[i]? = some (some (.own ds))) (hp : σ[i]? = some (some (.ref p))) (z : ds'.length ≤ sizeLine) (r : RpAll K (hide O H) vs' ds') :
    St0 K Tb H0 O0 O (upd H p (.lst vs')) σ (ρ.set i (some (.own ds'))) := by
  obtain ⟨v, h1, p', vs, h2, m, m0, hH, _, _⟩ := st.slot i _ hi
  rw [hp] at h1
  cases h1
  cases h2
  have il : i < ρ.length := (List.getElem?_eq_some_iff.mp hi).1
  have own : ∀ (j : Nat) (s : Sl), s.Hold → j ≠ i → ρ[j]? = some (some s) → σ[j]? ≠ some (some (.ref p)) := fun j s hs hj h1 h2 => hj (st.inj j i p s (.own ds) hs trivial h1 hi h2 hp)
  refine ⟨st.ext.updN (st.new p m m0) (fun c q z => (plain_lst vs).1 c q (Option.some.inj (hH.symm.trans z))), st.sub, st.new, fun b h => ?_, fun P mp => ?_, fun b mb nb => ?_, by rw [List.length_set]; exact st.len, fun j x h => ?_, fun j k q xs ys hx hy h1 h2 h3 h4 => ?_⟩
  · by_cases hb : b = p
    · rw [hb, upd_same]; simp
    · rw [upd_ne hb]; exact st.al b h
  · have hb : P ≠ p := tabG_ne (st.tab P mp) fun ps q => by rw [hH] at q; cases q
    exact (st.tab P mp).mono (fun ps h => by rw [upd_ne hb]; exact h) fun c q h => by
      rw [upd_ne fun z => (plain_lst vs).1 c q (Option.some.inj (hH.symm.trans (by rw [← z]; exact h)))]
      exact h
  · by_cases hb : b = p
    · exact ⟨_, by rw [hb]; exact upd_same, plain_lst vs'⟩
    · obtain ⟨x, h, q⟩ := st.pln b mb nb
      exact ⟨x, by rw [upd_ne hb]; exact h, q⟩
  · by_cases e : i = j
    · subst e
      rw [List.getElem?_set_self il] at h
      cases h
      exact ⟨_, hp, p, vs', rfl, m, m0, upd_same, z, by rw [hide_upd m]; exact r⟩
    · rw [List.getElem?_set_ne e] at h
      obtain ⟨v, h1, h2⟩ := st.slot j x h
      refine ⟨v, h1, h2.mv (by rw [hide_upd m]; exact fun _ _ h _ => h) (fun hx q ev mq _ => ⟨mq, fun o hq _ => ?_⟩) fun dd fs h => ?_⟩
      · have hne : q ≠ p := fun e2 => own j x hx (fun z => e z.symm) h (by rw [h1, ev, e2])
        rw [upd_ne hne]; exact hq
      · rw [upd_ne (fun e => by rw [e, hH] at h; cases h)]; exact h
  · have g : ∀ (j : Nat) (s : Sl), s.Hold → (ρ.set i (some (.own ds')))[j]? = some (some s) → ∃ s', s'.Hold ∧ ρ[j]? = some (some s') := fun j s hs h => by
      by_cases e : i = j
      · subst e; exact ⟨.own ds, trivial, hi⟩
      · rw [List.getElem?_set_ne e] at h; exact ⟨s, hs, h⟩
    obtain ⟨xs', x1, g1⟩ := g j xs hx h1
    obtain ⟨ys', y1, g2⟩ := g k ys hy h2
    exact st.inj j k q xs' ys' x1 y1 g1 g2 h3 h4
/-- a new list becomes slot i's own -/
theorem St0.ownNew {i : Nat} {ds : List PyData} {vs : List V} (st : St0 K Tb H0 O0 O H σ ρ) (e : Ext H H') (n : H p = none) (hp : H' p = some (.lst vs)) (z : ds.length ≤ sizeLine) (r : RpAll K (hide (p :: O) H') vs ds) :
    St0 K Tb H0 O0 (p :: O) H' (σ.set i (some (.ref p))) (ρ.set i (some (.own ds))) := by
  have nO : p ∉ O := st.fresh n
  have n0 : H0 p = none := by
    cases q : H0 p with
    | none => rfl
    | some x => exact absurd n (st.ext.al p (by rw [q]; simp))
  have sub : Sub (hide O H) (hide (p :: O) H') := fun b o h t => by
    obtain ⟨h1, h2⟩ := hide_some h
    have hb : b ≠ p := ne_of_none h2 n
    rw [hide_out (by rw [List.mem_cons, not_or]; exact ⟨hb, h1⟩)]
    exact e.keep b o h2 t
  have nown : ∀ (j : Nat) (s : Sl), s.Hold → ρ[j]? = some (some s) → σ[j]? ≠ some (some (.ref p)) := fun j s hs h h2 => nO (st.hold hs h h2).1
  refine ⟨st.ext.trans e, fun b h => List.mem_cons_of_mem _ (st.sub b h), fun b h h2 => ?_, fun b h => ?_, fun P m => e.tab P (st.tab P m), fun b mb nb => ?_, by rw [List.length_set, List.length_set]; exact st.len, fun j s h => ?_, fun j k q xs ys hx hy h1 h2 h3 h4 => ?_⟩
  · rcases List.mem_cons.mp h with rfl | h
    · exact n0
    · exact st.new b h h2
  · rcases List.mem_cons.mp h with rfl | h
    · rw [hp]; simp
    · exact e.al b (st.al b h)
  · rcases List.mem_cons.mp mb with rfl | mb
    · exact ⟨_, hp, plain_lst vs⟩
    · obtain ⟨x, h, q⟩ := st.pln b mb nb
      exact ⟨x, e.keep b x h q.2, q⟩
  · by_cases ej : i = j
    · subst ej
      have il : i < ρ.length := by
        have := (List.getElem?_eq_some_iff.mp h).1
        rw [List.length_set] at this
        exact this
      rw [List.getElem?_set_self il] at h
      cases h
      exact ⟨_, by rw [List.getElem?_set_self (by rw [st.len]; exact il)], p, vs, rfl, List.mem_cons_self, fun m => nO (st.sub p m), hp, z, r⟩
    · rw [List.getElem?_set_ne ej] at h ⊢
      obtain ⟨v, h1, h2⟩ := st.slot j s h
      exact ⟨v, h1, h2.mv sub (fun _ q _ mq _ => ⟨List.mem_cons_of_mem _ mq, fun o hq n => e.keep q o hq n⟩) fun dd fs h => e.keep dd _ h fun _ z => by cases z⟩
  · have lt : ∀ (j : Nat) (s : Sl), i = j → (ρ.set i (some (.own ds)))[j]? = some (some s) → j < σ.length := fun j xs ej h => by
      have := (List.getElem?_eq_some_iff.mp h).1
      rw [List.length_set] at this
      rw [st.len]; exact this
    by_cases ej : i = j
    · by_cases ek : i = k
      · rw [← ej, ← ek]
      · subst ej
        rw [List.getElem?_set_self (lt _ _ rfl h1)] at h3
        cases h3
        rw [List.getElem?_set_ne ek] at h2 h4
        exact absurd h4 (nown k ys hy h2)
    · by_cases ek : i = k
      · subst ek
        rw [List.getElem?_set_self (lt _ _ rfl h2)] at h4
        cases h4
        rw [List.getElem?_set_ne ej] at h1 h3
        exact absurd h3 (nown j xs hx h1)
      · rw [List.getElem?_set_ne ej] at h1 h3
        rw [List.getElem?_set_ne ek] at h2 h4
        exact st.inj j k q xs ys hx hy h1 h2 h3 h4
/-- slot i's own list becomes a datum -/
theorem St0.frz {i : Nat} {ρ' : Rho} (st : St0 K Tb H0 O0 O H σ ρ) (h : PD.frz i ρ = some ρ') : ∃ O', St0 K Tb H0 O0 O' H σ ρ' := by
  unfold PD.frz at h
  split at h
  · rename_i ds hi
    cases h
    obtain ⟨v, h1, p, vs, rfl, m, m0, hp, z, r⟩ := st.slot i _ hi
    have il : i < ρ.length := (List.getElem?_eq_some_iff.mp hi).1
    have mem : ∀ b, b ∈ O.filter (fun b => decide (b ≠ p)) ↔ b ∈ O ∧ b ≠ p := fun b => by rw [List.mem_filter, decide_eq_true_eq]
    have sub : Sub (hide O H) (hide (O.filter fun b => decide (b ≠ p)) H) := Sub.less fun b hb => ((mem b).mp hb).1
    refine ⟨O.filter fun b => decide (b ≠ p), st.ext, fun b hb => (mem b).mpr ⟨st.sub b hb, fun e => m0 (by rw [← e]; exact hb)⟩, fun b hb => st.new b ((mem b).mp hb).1, fun b hb => st.al b ((mem b).mp hb).1, st.tab, fun b hb => st.pln b ((mem b).mp hb).1, by rw [List.length_set]; exact st.len, fun j s hs => ?_, fun j k q xs ys hx hy h2 h3 h4 h5 => ?_⟩
    · by_cases ej : i = j
      · subst ej
        rw [List.getElem?_set_self il] at hs
        cases hs
        refine ⟨_, h1, .lst (.of ?_) z (r.mono sub)⟩
        rw [hide_out (fun hb => ((mem p).mp hb).2 rfl)]
        exact hp
      · rw [List.getElem?_set_ne ej] at hs
        obtain ⟨v, g1, g2⟩ := st.slot j s hs
        exact ⟨v, g1, g2.mv sub (fun hx q ev mq _ => ⟨(mem q).mpr ⟨mq, fun e => ej (st.inj i j p (.own ds) s trivial hx hi hs h1 (by rw [g1, ev, e]))⟩, fun o hq _ => hq⟩) fun _ _ h => h⟩
    · by_cases ej : i = j
      · subst ej
        rw [List.getElem?_set_self il] at h2
        cases h2
        exact hx.elim
      · by_cases ek : i = k
        · subst ek
          rw [List.getElem?_set_self il] at h3
          cases h3
          exact hy.elim
        · rw [List.getElem?_set_ne ej] at h2
          rw [List.getElem?_set_ne ek] at h3
          exact st.inj j k q xs ys hx hy h2 h3 h4 h5
  · cases h
/-- slot i's own dict becomes a datum -/
theorem St0.frzD {i : Nat} {ρ' : Rho} (st : St0 K Tb H0 O0 O H σ ρ) (h : PD.frzD i ρ = some ρ') : ∃ O', St0 K Tb H0 O0 O' H σ ρ' := by
  unfold PD.frzD at h
  split at h
  · rename_i ks hi
    cases h
    obtain ⟨v, h1, p, ep, xs, rfl, m, m0, hp, rfl, r⟩ := st.slot i _ hi
    have il : i < ρ.length := (List.getElem?_eq_some_iff.mp hi).1
    have mem : ∀ b, b ∈ O.filter (fun b => decide (b ≠ p)) ↔ b ∈ O ∧ b ≠ p := fun b => by rw [List.mem_filter, decide_eq_true_eq]
    have sub : Sub (hide O H) (hide (O.filter fun b => decide (b ≠ p)) H) := Sub.less fun b hb => ((mem b).mp hb).1
    refine ⟨O.filter fun b => decide (b ≠ p), st.ext, fun b hb => (mem b).mpr ⟨st.sub b hb, fun e => m0 (by rw [← e]; exact hb)⟩, fun b hb => st.new b ((mem b).mp hb).1, fun b hb => st.al b ((mem b).mp hb).1, st.tab, fun b hb => st.pln b ((mem b).mp hb).1, by rw [List.length_set]; exact st.len, fun j s hs => ?_, fun j k q xs ys hx hy h2 h3 h4 h5 => ?_⟩
    · by_cases ej : i = j
      · subst ej
        rw [List.getElem?_set_self il] at hs
        cases hs
        refine ⟨_, h1, ?_⟩
        rw [List.map_map]
        refine .dct (ep := ep) ?_ fun x hx => sub.sqT (r x hx)
        rw [hide_out (fun hb => ((mem p).mp hb).2 rfl)]
        exact hp
      · rw [List.getElem?_set_ne ej] at hs
        obtain ⟨v, g1, g2⟩ := st.slot j s hs
        exact ⟨v, g1, g2.mv sub (fun hx q ev mq _ => ⟨(mem q).mpr ⟨mq, fun e => ej (st.inj i j p (.dct _) s trivial hx hi hs h1 (by rw [g1, ev, e]))⟩, fun o hq _ => hq⟩) fun _ _ h => h⟩
    · by_cases ej : i = j
      · subst ej
        rw [List.getElem?_set_self il] at h2
        cases h2
        exact hx.elim
      · by_cases ek : i = k
        · subst ek
          rw [List.getElem?_set_self il] at h3
          cases h3
          exact hy.elim
        · rw [List.getElem?_set_ne ej] at h2
          rw [List.getElem?_set_ne ek] at h3
          exact st.inj j k q xs ys hx hy h2 h3 h4 h5
  · cases h
/-- all own lists as data, for a moment -/
theorem St0.thaw (st : St0 K Tb H0 O0 O H σ ρ) : St0 K Tb H0 O0 O0 H σ (PD.thaw ρ) := by
  have sub : Sub (hide O H) (hide O0 H) := Sub.less st.sub
  have get : ∀ (i : Nat) (s : Sl), (PD.thaw ρ)[i]? = some (some s) → (∃ x, s = .d x ∧ ρ[i]? = some (some (.d x))) ∨ (∃ xs, s = .d (.list xs) ∧ ρ[i]? = some (some (.own xs))) ∨ (∃ ks, s = .d (.dict (ks.map fun k => (.tuple (k.map .int), .bool true))) ∧ ρ[i]? = some (some (.dct ks))) ∨ ∃ a c dd e, s = .exn a c dd e ∧ ρ[i]? = some (some (.exn a c dd e)) := fun i s h => by
    unfold PD.thaw at h
    rw [List.getElem?_map] at h
    cases e : ρ[i]? with
    | none => rw [e] at h; cases h
    | some o =>
      rw [e] at h
      cases o with
      | none => cases h
      | some s' =>
        cases s' with
        | d x => cases h; exact .inl ⟨x, rfl, rfl⟩
        | own xs => cases h; exact .inr (.inl ⟨xs, rfl, rfl⟩)
        | dct ks => cases h; exact .inr (.inr (.inl ⟨ks, rfl, rfl⟩))
        | exn a c dd e => cases h; exact .inr (.inr (.inr ⟨_, _, _, _, rfl, rfl⟩))
  refine ⟨st.ext, fun _ h => h, fun b h h2 => absurd h h2, fun b h => st.al b (st.sub b h), st.tab, fun b h h2 => absurd h h2, by unfold PD.thaw; rw [List.length_map]; exact st.len, fun i s h => ?_, fun i j p xs ys hx _ h1 _ _ _ => ?_⟩
  · rcases get i s h with ⟨x, rfl, e⟩ | ⟨xs, rfl, e⟩ | ⟨ks, rfl, e⟩ | ⟨a, c, dd, x, rfl, e⟩
    · obtain ⟨v, h1, h2⟩ := st.slot i _ e
      exact ⟨v, h1, Rp.mono sub h2⟩
    · obtain ⟨v, h1, p, vs, rfl, m, m0, hp, z, r⟩ := st.slot i _ e
      exact ⟨_, h1, .lst (.of (by rw [hide_out m0]; exact hp)) z (r.mono sub)⟩
    · obtain ⟨v, h1, p, ep, xs, rfl, m, m0, hp, rfl, r⟩ := st.slot i _ e
      refine ⟨_, h1, ?_⟩
      rw [List.map_map]
      exact .dct (by rw [hide_out m0]; exact hp) fun x hx => sub.sqT (r x hx)
    · obtain ⟨v, h1, h2⟩ := st.slot i _ e
      exact ⟨v, h1, h2.mv sub (fun hx _ _ _ _ => hx.elim) fun _ _ h => h⟩
  · rcases get i _ h1 with ⟨x, rfl, _⟩ | ⟨xs', rfl, _⟩ | ⟨ks, rfl, _⟩ | ⟨a, c, dd, x, rfl, _⟩ <;> exact hx.elim
theorem flat_rp {G G' : Hp} {v : V} {d : PyData} (r : Rp K G v d) (h : flat d = true) : Rp K G' v d := by
  cases r with
  | non => exact .non
  | bl b => exact .bl b
  | int i => exact .int i
  | str x => exact .str x
  | lst _ _ _ => cases h
  | tup _ _ _ => cases h
  | dct _ _ => cases h
end

section
variable {X : Cx} {Tb : List Addr} {W : WX} {e c : Expr} {f : Dn} {fb : DnB} {g h : Sn} {pos : Pos} {st : Stmt} {sts : List Stmt}
theorem ft_thaw (hc : PT X c (tDT X.K Tb W fb)) : PT X c (tDT X.K Tb W (dThawB fb)) := hc.by fun σ H Q ⟨H0, O0, O, ρ, st, h⟩ => ⟨H0, O0, O0, thaw ρ, st.thaw, by
  unfold dThawB at h
  cases q : fb (thaw ρ) with
  | ok b => rw [q] at h; exact h
  | exc x => rw [q] at h; exact h.elim
  | bad => rw [q] at h; exact h.elim⟩
theorem fd_thaw (he : PE X e (tD X.K Tb W f)) : PE X e (tD X.K Tb W (dThaw f)) := he.by fun σ H Q ⟨H0, O0, O, ρ, st, h⟩ => ⟨H0, O0, O0, thaw ρ, st.thaw, by
  unfold dThaw at h
  cases q : f (thaw ρ) with
  | ok d =>
    rw [q] at h
    by_cases hf : flat d = true
    · have h : Post X.K O (RlD X.K O) _ H (if flat d = true then .ok d else .bad) Q := h
      rw [if_pos hf] at h
      exact fun v H' e' r => h v H' e' (flat_rp r hf)
    · have h : Post X.K O (RlD X.K O) _ H (if flat d = true then .ok d else .bad) Q := h
      rw [if_neg hf] at h
      exact h.elim
  | exc x => rw [q] at h; exact h.elim
  | bad => rw [q] at h; exact h.elim⟩
theorem fs_nil : PSs X [] (tS X.K Tb W gSkip) := pss_nil.by fun D σ H ⟨H0, O0, O, ρ, st, h⟩ => h O σ H st
theorem fs_cons (h1 : PS X st (tS X.K Tb W g)) (h2 : PSs X sts (tS X.K Tb W h)) : PSs X (st :: sts) (tS X.K Tb W (gSeq g h)) := (pss_cons h1 h2).by fun D σ H ⟨H0, O0, O, ρ, st, q⟩ => ⟨H0, O0, O, ρ, st, by
  unfold gSeq at q
  cases e : g ρ with
  | nx ρ' => rw [e] at q; exact fun O' σ' H' st' => ⟨H0, O0, O', ρ', st', q⟩
  | rt d => rw [e] at q; exact q
  | bk ρ' => rw [e] at q; exact q
  | ct ρ' => rw [e] at q; exact q
  | exc x ρ' => rw [e] at q; exact q
  | bad => rw [e] at q; exact q⟩
theorem fs_one (h1 : PS X st (tS X.K Tb W g)) : PSs X [st] (tS X.K Tb W g) := pss_one h1
theorem fs_frz (i : Nat) (h1 : PSs X sts (tS X.K Tb W g)) : PSs X sts (tS X.K Tb W (gFrz i g)) := h1.by fun D σ H ⟨H0, O0, O, ρ, st, q⟩ => by
  unfold gFrz at q
  cases e : frz i ρ with
  | none => rw [e] at q; exact q.elim
  | some ρ' =>
    rw [e] at q
    obtain ⟨O', st'⟩ := st.frz e
    exact ⟨H0, O0, O', ρ', st', q⟩
theorem fs_frzD (i : Nat) (h1 : PSs X sts (tS X.K Tb W g)) : PSs X sts (tS X.K Tb W (gFrzD i g)) := h1.by fun D σ H ⟨H0, O0, O, ρ, st, q⟩ => by
  unfold gFrzD at q
  cases e : frzD i ρ with
  | none => rw [e] at q; exact q.elim
  | some ρ' =>
    rw [e] at q
    obtain ⟨O', st'⟩ := st.frzD e
    exact ⟨H0, O0, O', ρ', st', q⟩
theorem fs_pass : PS X (.Pass pos) (tS X.K Tb W gSkip) := ps_pass.by fun D σ H ⟨H0, O0, O, ρ, st, h⟩ => h O σ H st
theorem fs_brk : PS X (.Break pos) (tS X.K Tb W gBrk) := ps_break.by fun D σ H ⟨H0, O0, O, ρ, st, h⟩ => h O σ H st
theorem fs_cnt : PS X (.Continue pos) (tS X.K Tb W gCnt) := ps_continue.by fun D σ H ⟨H0, O0, O, ρ, st, h⟩ => h O σ H st
theorem fs_doc {x : Str} {j : Nat} {pos' : Pos} : PS X (.Expr (.Constant (.str x) j pos) pos') (tS X.K Tb W gSkip) := ps_doc.by fun D σ H ⟨H0, O0, O, ρ, st, h⟩ => h O σ H st
theorem fs_ret (he : PE X e (tD X.K Tb W f)) : PS X (.Return (some e) pos) (tS X.K Tb W (gRet f)) := (ps_ret he).by fun D σ H ⟨H0, O0, O, ρ, st, h⟩ => ⟨H0, O0, O, ρ, st, oR_post st h fun d v H1 e r k => k v H1 (st.ext.trans e) (r.mono (Sub.less st.sub))⟩
theorem fs_retN : PS X (.Return none pos) (tS X.K Tb W gRetN) := ps_retN.by fun D σ H ⟨H0, O0, O, ρ, st, h⟩ => h .non H st.ext .non
theorem fs_expr (he : PE X e (tD X.K Tb W f)) (hs : swapsWith e none pos.line X.env = pure false := by rfl) : PS X (.Expr e pos) (tS X.K Tb W (gExpr f)) := (ps_expr he hs).by fun D σ H ⟨H0, O0, O, ρ, st, h⟩ => ⟨H0, O0, O, ρ, st, oR_post st h fun d v H1 e r k => k O σ H1 (st.step e)⟩
theorem fs_if {a b : List Stmt} (hc : PT X c (tDT X.K Tb W fb)) (ha : PSs X a (tS X.K Tb W g)) (hb : PSs X b (tS X.K Tb W h)) : PS X (.If c a b pos) (tS X.K Tb W (gIf fb g h)) := (ps_if hc ha hb).by fun D σ H ⟨H0, O0, O, ρ, st, q⟩ => ⟨H0, O0, O, ρ, st, oR_post st q fun b b' H1 e r k => by
  cases (show b' = b from r)
  cases b with
  | true => exact ⟨H0, O0, O, ρ, st.step e, k⟩
  | false => exact ⟨H0, O0, O, ρ, st.step e, k⟩⟩
/-- name = e -/
theorem fs_set {i : Nat} {x : Str} {pos' : Pos} (hN : X.N.Nodup) (hi : X.N[i]? = some x) (hx : Loc X.env.scope x) (he : PE X e (tD X.K Tb W f)) (hs : swapsWith e (some (.Name x pos')) pos.line X.env = pure false := by rfl)
    (hf : X.fn x = true ∨ X.env.scope.names.lookup x = some .local := by first | exact .inl rfl | exact .inr rfl | assumption) : PS X (.Assign [.Name x pos'] e pos) (tS X.K Tb W (gSet f (.nm i))) := (ps_set hN hi hx he hs hf).by fun D σ H ⟨H0, O0, O, ρ, st, h⟩ => ⟨H0, O0, O, ρ, st, oR_post st h fun d v H1 e r k => by
  unfold Tg.set at k
  exact k O _ H1 ((st.step e).set r)⟩
/-- target = e -/
theorem fs_asg {tg : Expr} {t : Tg} (he : PE X e (tD X.K Tb W f)) (hg : PG X tg (tG X.K Tb t)) (hs : swapsWithSole [tg] e pos.line X.env = pure false := by rfl) (hw : swappedStores [tg] e X.env = pure none := by rfl)
    (h1 : (assignEach [tg] X.env).map (·.2) = [assign tg X.env] := by rfl) : PS X (.Assign [tg] e pos) (tS X.K Tb W (gSet f t)) := (ps_asg he hg hs hw h1).by fun D σ H ⟨H0, O0, O, ρ, st, h⟩ => ⟨H0, O0, O, ρ, st, oR_post st h fun d v H1 e r k => by
  cases q : t.set d ρ with
  | none => rw [q] at k; exact k.elim
  | some ρ' =>
    rw [q] at k
    exact ⟨H0, O0, O, ρ, ρ', d, st.step e, r, q, fun σ' st' _ => k O σ' H1 st'⟩⟩
/-- name = [.. for ..] -/
theorem fs_setLc {i : Nat} {y : Str} {py : Pos} {elt tg iter : Expr} {ifs : List Expr} {scope : Scope} {own : List (Str × Nat)} {spos : Pos} {fi : DnL} {t : Tg} {ft : DnB} {fe : Dn} (hc : X.calm = true) (hN : X.N.Nodup) (hy : X.N[i]? = some y) (hyl : X.env.scope.names.lookup y = some .local)
    (hsw : swapsWith (.ListComp elt [⟨tg, iter, ifs, 0⟩] scope pos) (some (.Name y py)) spos.line X.env = pure true) (hi : PI X tg iter (tI X.K Tb W fi)) (ok : BlkOk X.N X.env.scope scope own)
    (hg : ∀ (s : Shared) (H : Hp) (C : Addr) (cl : List (Str × Addr)) (fp : List Addr), PG (X.blk s H scope (compEnvC scope cl C X.env) fp) tg (tG X.K Tb t))
    (ht : ∀ (s : Shared) (H : Hp) (C : Addr) (cl : List (Str × Addr)) (fp : List Addr), PTs (X.blk s H scope (compEnvC scope cl C X.env) fp) ifs (tDT X.K Tb W0 ft))
    (he : ∀ (s : Shared) (H : Hp) (C : Addr) (cl : List (Str × Addr)) (fp : List Addr), PE (X.blk s H scope (compEnvC scope cl C X.env) fp) elt (tD X.K Tb W0 fe))
    (hv : ∀ i ∈ t.ixs, i ∈ own.map (·.2) := by decide) (hs : ∀ x, foldedSetIterable iter X.env x = pure x := by intro _; rfl) :
    PS X (.Assign [.Name y py] (.ListComp elt [⟨tg, iter, ifs, 0⟩] scope pos) spos) (tS X.K Tb W (gSet (dLc fi t ft fe (own.map (·.2))) (.nm i))) :=
  (ps_setLc hc hN hy hyl hsw hi ok hg ht he hs).by fun D σ H ⟨H0, O0, O, ρ, st, h⟩ => lc_walk (W := W) (Q := fun x H1 => gName i x σ H1 D.nx) hv ⟨H0, O0, O, ρ, st, oR_post st h fun d v H1 e r k => by
    unfold Tg.set at k
    exact k O _ H1 ((st.step e).set r)⟩
theorem fs_for {tg iter : Expr} {body : List Stmt} {fi : DnL} {t : Tg} (hp : PassesOwn (model X.prog X.w) X.A X.env X.xe) (hc : X.calm = true) (hi : PI X tg iter (tI X.K Tb W fi)) (hg : PG X tg (tG X.K Tb t)) (hb : PSs X body (tS X.K Tb W g))
    (hs : ∀ x, foldedSetIterable iter X.env x = pure x := by intro _; rfl) : PS X (.For tg iter body [] pos) (tS X.K Tb W (gFor fi t g)) := (ps_for hp hc hi hg hb hs).by fun D σ H ⟨H0, O0, O, ρ, st, h⟩ => ⟨H0, O0, O, ρ, st, oR_post st h fun ds J H1 e it k => by
  have st1 := (st.step e)
  have eB : Ext H0 (rebase O0 O H1) := st1.baseExt
  have k1 := PostS.rebase eB k
  have eG : Ext (hide O H1) (rebase O0 O H1) := by
    have out : ∀ b o, hide O H1 b = some o → rebase O0 O H1 b = some o := fun b o h => by
      obtain ⟨h1, h2⟩ := hide_some h
      unfold rebase
      rw [hide_out fun m => h1 (mem_rebase.mp m).1]
      exact h2
    refine ⟨fun b o h _ => out b o h, fun b t => t.mono (fun ps h => out b _ h) fun c q h => out c _ h, fun b h => ?_⟩
    cases q : hide O H1 b with
    | none => exact absurd q h
    | some x => rw [out b x q]; simp
  refine ⟨fun i m σ' H' => i ≤ ds.length ∧ m = ds.length - i ∧ ∃ O' ρ', St0 X.K Tb (rebase O0 O H1) O0 O' H' σ' ρ' ∧ PostS X.K Tb W (rebase O0 O H1) O0 (forGo t g (ds.drop i) ρ') D,
    ⟨ds.length, Nat.zero_le _, by simp, O, ρ, st1.rebase, k1⟩, ?_⟩
  rintro i m σ' H' ⟨hi, rfl, O', ρ', s1, k2⟩
  have eH : Ext (hide O H1) H' := eG.trans s1.ext
  have nG : ∀ b ∈ O', hide O H1 b = none := fun b hb => by
    by_cases h0 : b ∈ O0
    · exact hide_in (st1.sub b h0)
    · have q := s1.new b hb h0
      cases z : hide O H1 b with
      | none => rfl
      | some x =>
        obtain ⟨z1, z2⟩ := hide_some z
        unfold rebase at q
        rw [hide_out fun m => z1 (mem_rebase.mp m).1, z2] at q
        cases q
  by_cases hlt : i < ds.length
  · refine .inr ⟨it.go i H' eH hlt, fun σ2 H2 => i + 1 ≤ ds.length ∧ ∃ O' ρ', St0 X.K Tb (rebase O0 O H1) O0 O' H2 σ2 ρ' ∧ PostS X.K Tb W (rebase O0 O H1) O0 (forGo t g (ds.drop (i + 1)) ρ') D,
      fun σ2 H2 q => ⟨ds.length - (i + 1), by omega, q.1, rfl, q.2⟩, fun x H2 y => ?_⟩
    obtain ⟨e2, d, hd, rx⟩ := it.yld i H' O' x H2 eH nG s1.al hlt y
    have hdr : ds.drop i = d :: ds.drop (i + 1) := by
      obtain ⟨hl, hd'⟩ := List.getElem?_eq_some_iff.mp hd
      rw [List.drop_eq_getElem_cons hl, hd']
    rw [hdr] at k2
    unfold forGo at k2
    cases et : t.set d ρ' with
    | none => rw [et] at k2; exact k2.elim
    | some ρ1 =>
      rw [et] at k2
      refine ⟨_, O0, O', ρ', ρ1, d, s1.step e2, rx, et, fun σ3 s3 _ => ⟨_, O0, O', ρ1, s3, ?_⟩⟩
      cases eg : g ρ1 with
      | nx ρ2 => simp only [eg] at k2; exact fun O4 σ4 H4 s4 => ⟨hlt, O4, ρ2, s4, k2⟩
      | ct ρ2 => simp only [eg] at k2; exact fun O4 σ4 H4 s4 => ⟨hlt, O4, ρ2, s4, k2⟩
      | bk ρ2 => simp only [eg] at k2; exact k2
      | rt d => simp only [eg] at k2; exact k2
      | exc x ρ2 => simp only [eg] at k2; exact k2
      | bad => simp only [eg] at k2; exact k2
  · have ei : i = ds.length := by omega
    subst ei
    rw [List.drop_length] at k2
    exact .inl ⟨it.stop H' eH, k2 O' σ' H' s1⟩⟩
theorem fs_while {body : List Stmt} {fuel : Rho → Nat} (hp : PassesOwn (model X.prog X.w) X.A X.env X.xe) (hc : PT X c (tDT X.K Tb W fb)) (hb : PSs X body (tS X.K Tb W g)) : PS X (.While c body [] pos) (tS X.K Tb W (gWhile fb g fuel)) := (ps_while hp hc hb).by fun D σ H ⟨H0, O0, O, ρ, st, h⟩ => by
  refine ⟨fun m σ' H' => ∃ O' ρ', St0 X.K Tb H0 O0 O' H' σ' ρ' ∧ PostS X.K Tb W H0 O0 (whGo fb g m ρ') D, ⟨fuel ρ, O, ρ, st, h⟩, ?_⟩
  rintro m σ' H' ⟨O', ρ', s1, k⟩
  cases m with
  | zero => exact k.elim
  | succ m =>
    refine ⟨H0, O0, O', ρ', s1, oR_post s1 k fun b b' H1 e r k => ?_⟩
    cases (show b' = b from r)
    cases b with
    | false => exact k O' σ' H1 (s1.step e)
    | true =>
      refine ⟨fun σ2 H2 => ∃ O' ρ', St0 X.K Tb H0 O0 O' H2 σ2 ρ' ∧ PostS X.K Tb W H0 O0 (whGo fb g m ρ') D, fun σ2 H2 q => ⟨m, Nat.lt_succ_self _, q⟩, H0, O0, O', ρ', s1.step e, ?_⟩
      simp only [if_true] at k
      cases eg : g ρ' with
      | nx ρ2 => simp only [eg] at k; exact fun O4 σ4 H4 s4 => ⟨O4, ρ2, s4, k⟩
      | ct ρ2 => simp only [eg] at k; exact fun O4 σ4 H4 s4 => ⟨O4, ρ2, s4, k⟩
      | bk ρ2 => simp only [eg] at k; exact k
      | rt d => simp only [eg] at k; exact k
      | exc x ρ2 => simp only [eg] at k; exact k
      | bad => simp only [eg] at k; exact k
end
end PD

set_option Elab.async false
set_option linter.all false
set_option maxRecDepth 100000
set_option maxHeartbeats 1000000
namespace PD
open PySem PySem.Spec PyProof.Rows L2

/-! ### new lists -/
/-- an expression whose value is a new list -/
def tN (K : PySem.W.Frag) (Tb : List Addr) (W : WX) (f : Dn) : TE := fun σ H Q => ∃ H0 O0 O ρ, St0 K Tb H0 O0 O H σ ρ ∧ match f ρ with
  | .ok (.list ds) => ∀ p vs H', Ext H H' → H p = none → H' p = some (.lst vs) → ds.length ≤ sizeLine → RpAll K (hide (p :: O) H') vs ds → Q (.ref p) H'
  | .exc e => AftX K O H e fun c d H => W c d σ H
  | _ => False
section
variable {K : PySem.W.Frag} {Tb : List Addr} {W : WX} {H0 H H' H1 : Hp} {O0 O : List Addr} {ρ : Rho} {σ : L2.St} {p : Addr} {D : Ends} {ds : List PyData} {xs : List V}
theorem RpAll.beside (al : Al O H) (n : H p = none) (r : RpAll K (hide O H) xs ds) {o : HO} : RpAll K (hide (p :: O) (upd H p o)) xs ds := r.mono fun b x h t => by
  obtain ⟨h1, h2⟩ := hide_some h
  have hb : b ≠ p := ne_of_none h2 n
  rw [hide_out (by rw [List.mem_cons, not_or]; exact ⟨hb, h1⟩), upd_ne hb]
  exact h2
end
section
variable {X : Cx} {Tb : List Addr} {W : WX} {e : Expr} {es : List Expr} {f : Dn} {gl : DnL} {pos p : Pos} {x : Str}
/-- f ρ is a list: what is wanted once the parts are known -/
theorem tN_of {K : PySem.W.Frag} {O : List Addr} {H : Hp} {σ : L2.St} {Q : VK} {α β : Type} {Rl : Hp → β → α → Prop} {x : R α} {u : α → R PyData} {Q1 : β → Hp → Prop}
    (h : match x >>= u with
      | .ok (.list ds) => ∀ p vs H', Ext H H' → H p = none → H' p = some (.lst vs) → ds.length ≤ sizeLine → RpAll K (hide (p :: O) H') vs ds → Q (.ref p) H'
      | .exc e => AftX K O H e fun c d H => W c d σ H
      | _ => False)
    (hu : ∀ a e, u a ≠ .exc e)
    (k : ∀ a b H1, Ext H H1 → Rl H1 b a → (∀ ds, u a = .ok (.list ds) → (∀ p vs H', Ext H1 H' → H1 p = none → H' p = some (.lst vs) → ds.length ≤ sizeLine → RpAll K (hide (p :: O) H') vs ds → Q (.ref p) H') → Q1 b H1)) (nb : ∀ a, (∃ ds, u a = .ok (.list ds)) ∨ (match u a with | .ok (.list _) => True | _ => False) → True := by intros; trivial) :
    Post K O Rl (fun c d H => W c d σ H) H x Q1 := by
  cases x with
  | exc e => exact h
  | bad => exact h.elim
  | ok a =>
    intro b H1 ex r
    have h' : match u a with
      | .ok (.list ds) => ∀ p vs H', Ext H H' → H p = none → H' p = some (.lst vs) → ds.length ≤ sizeLine → RpAll K (hide (p :: O) H') vs ds → Q (.ref p) H'
      | .exc e => AftX K O H e fun c d H => W c d σ H
      | _ => False := h
    cases hu2 : u a with
    | bad => rw [hu2] at h'; exact h'.elim
    | exc e => exact absurd hu2 (hu a e)
    | ok d =>
      rw [hu2] at h'
      cases d with
      | list ds =>
        refine k a b H1 ex r ds hu2 fun p vs H' e2 n hp z rr => h' p vs H' (ex.trans e2) ?_ hp z rr
        cases q : H p with
        | none => rfl
        | some o => exact absurd n (ex.al p (by rw [q]; simp))
      | _ => exact h'.elim
theorem fn_lst (h : PA X es (tDs X.K Tb W gl)) : PE X (.List es pos) (tN X.K Tb W (dLst gl)) := (pe_lst h).by fun σ H Q ⟨H0, O0, O, ρ, st, h⟩ => by
  refine ⟨H0, O0, O, ρ, st, tN_of (u := fun xs => if xs.length ≤ sizeLine then .ok (.list xs) else .bad) h (fun a e q => by split at q <;> cases q) fun ds vs H1 ex r ds' e k => ?_⟩
  split at e
  · rename_i z
    cases e
    exact ⟨by rw [r.length]; exact z, fun p hp => k p vs _ (Ext.new hp) hp upd_same z (r.beside (st.step ex).al hp)⟩
  · cases e
theorem fn_list (hg : Gl X "list") (hm : X.mg "list" = none) (ha : PA X (e :: es) (tDs X.K Tb W gl)) (he : starEach (e :: es) X.env = (false, eval e X.env) :: starEach es X.env := by rfl) (hpl : (backTo pos (starEach es X.env)).any (·.1) = false := by rfl) : PE X (.Call (.Name "list" p) (e :: es) [] pos) (tN X.K Tb W (dArg bList gl)) :=
  (pe_callTy call_list_of hg hm boot_list ha (by decide) (by decide) he hpl).by fun σ H Q ⟨H0, O0, O, ρ, st, h⟩ => by
    refine ⟨H0, O0, O, ρ, st, tN_of (u := bList) h (fun a e q => by unfold bList items at q; split at q <;> (try split at q) <;> cases q) fun ds vs H1 ex r ds' e k => ?_⟩
    have al := (st.step ex).al
    unfold bList items at e
    split at e
    · split at e
      · cases e
        cases r with
        | cons r1 r2 =>
          cases r2
          cases r1 with
          | lst h1 z1 a1 => exact ⟨_, _, rfl, .inl (Sub.unhide.sqL h1), fun l hl => k l _ _ (Ext.new hl) hl upd_same z1 (a1.beside al hl)⟩
      · cases e
        cases r with
        | cons r1 r2 =>
          cases r2
          cases r1 with
          | tup h1 z1 a1 => exact ⟨_, _, rfl, .inr (Sub.unhide.sqT h1), fun l hl => k l _ _ (Ext.new hl) hl upd_same z1 (a1.beside al hl)⟩
      · cases e
    · cases e
/-- the slot's name takes the new list as its own -/
theorem own_end {K : PySem.W.Frag} {H0 H : Hp} {O0 O : List Addr} {ρ : Rho} {σ : L2.St} {D : Ends} {i : Nat} (st : St0 K Tb H0 O0 O H σ ρ) (h : PostS K Tb W H0 O0 (gOwn f i ρ) D) : tN K Tb W f σ H fun x H1 => D.nx (σ.set i (some x)) H1 := by
  refine ⟨H0, O0, O, ρ, st, ?_⟩
  unfold gOwn at h
  cases e : f ρ with
  | bad => rw [e] at h; exact h.elim
  | exc x => rw [e] at h; exact fun c d H1 ex r => h O σ H1 c d (st.step ex) r
  | ok d =>
    rw [e] at h
    cases d with
    | list ds => exact fun p vs H' ex n hp z r => h _ _ H' (st.ownNew ex n hp z r)
    | _ => exact h.elim
theorem fs_own {i : Nat} {pos' : Pos} (hN : X.N.Nodup) (hi : X.N[i]? = some x) (hx : Loc X.env.scope x) (he : PE X e (tN X.K Tb W f)) (hs : swapsWith e (some (.Name x pos')) pos.line X.env = pure false := by rfl)
    (hf : X.fn x = true ∨ X.env.scope.names.lookup x = some .local := by first | exact .inl rfl | exact .inr rfl | assumption) : PS X (.Assign [.Name x pos'] e pos) (tS X.K Tb W (gOwn f i)) := (ps_set hN hi hx he hs hf).by fun D σ H ⟨H0, O0, O, ρ, st, h⟩ => own_end st h
/-- name = [.. for ..], the name the list's only owner -/
theorem lc_walkN {K : PySem.W.Frag} {t : Tg} {ft : DnB} {fe : Dn} {fi : DnL} {vs : List Nat} {σ : L2.St} {H : Hp} {Q : VK} (hv : ∀ i ∈ t.ixs, i ∈ vs) (h : tN K Tb W (dLc fi t ft fe vs) σ H Q) :
    tLc (tI K Tb W fi) (tG K Tb t) (tDT K Tb W0 ft) (tD K Tb W0 fe) vs σ H Q := by
  obtain ⟨H0, O0, O, ρ, st, h⟩ := h
  refine ⟨H0, O0, O, ρ, st, tN_of (x := fi ρ) (u := fun ds => nx (lcGo t ft fe (wipeR ρ vs) ds) fun ys => .ok (.list ys)) h (fun a e q => by cases q2 : lcGo t ft fe (wipeR ρ vs) a <;> rw [q2] at q <;> cases q) fun ds J H1 ex it ds' e k => ?_⟩
  obtain ⟨ys, q, e⟩ := nx_ok e
  cases e
  exact lc_turns hv (st.step ex) it q fun D acc H' e1 nD hD z ra => k D acc H' e1 nD hD z ra
theorem fs_ownLc {i : Nat} {y : Str} {py : Pos} {elt tg iter : Expr} {ifs : List Expr} {scope : Scope} {own : List (Str × Nat)} {spos : Pos} {fi : DnL} {t : Tg} {ft : DnB} {fe : Dn} (hc : X.calm = true) (hN : X.N.Nodup) (hy : X.N[i]? = some y) (hyl : X.env.scope.names.lookup y = some .local)
    (hsw : swapsWith (.ListComp elt [⟨tg, iter, ifs, 0⟩] scope pos) (some (.Name y py)) spos.line X.env = pure true) (hi : PI X tg iter (tI X.K Tb W fi)) (ok : BlkOk X.N X.env.scope scope own)
    (hg : ∀ (s : Shared) (H : Hp) (C : Addr) (cl : List (Str × Addr)) (fp : List Addr), PG (X.blk s H scope (compEnvC scope cl C X.env) fp) tg (tG X.K Tb t))
    (ht : ∀ (s : Shared) (H : Hp) (C : Addr) (cl : List (Str × Addr)) (fp : List Addr), PTs (X.blk s H scope (compEnvC scope cl C X.env) fp) ifs (tDT X.K Tb W0 ft))
    (he : ∀ (s : Shared) (H : Hp) (C : Addr) (cl : List (Str × Addr)) (fp : List Addr), PE (X.blk s H scope (compEnvC scope cl C X.env) fp) elt (tD X.K Tb W0 fe))
    (hv : ∀ i ∈ t.ixs, i ∈ own.map (·.2) := by decide) (hs : ∀ x, foldedSetIterable iter X.env x = pure x := by intro _; rfl) :
    PS X (.Assign [.Name y py] (.ListComp elt [⟨tg, iter, ifs, 0⟩] scope pos) spos) (tS X.K Tb W (gOwn (dLc fi t ft fe (own.map (·.2))) i)) :=
  (ps_setLc hc hN hy hyl hsw hi ok hg ht he hs).by fun D σ H ⟨H0, O0, O, ρ, st, h⟩ => lc_walkN (W := W) (Q := fun x H1 => gName i x σ H1 D.nx) hv (own_end st h)
theorem fn_lc {elt tg iter : Expr} {ifs : List Expr} {scope : Scope} {own : List (Str × Nat)} {fi : DnL} {t : Tg} {ft : DnB} {fe : Dn} (hc : X.calm = true) (hN : X.N.Nodup) (hi : PI X tg iter (tI X.K Tb W fi)) (ok : BlkOk X.N X.env.scope scope own)
    (hg : ∀ (s : Shared) (H : Hp) (C : Addr) (cl : List (Str × Addr)) (fp : List Addr), PG (X.blk s H scope (compEnvC scope cl C X.env) fp) tg (tG X.K Tb t))
    (ht : ∀ (s : Shared) (H : Hp) (C : Addr) (cl : List (Str × Addr)) (fp : List Addr), PTs (X.blk s H scope (compEnvC scope cl C X.env) fp) ifs (tDT X.K Tb W0 ft))
    (he : ∀ (s : Shared) (H : Hp) (C : Addr) (cl : List (Str × Addr)) (fp : List Addr), PE (X.blk s H scope (compEnvC scope cl C X.env) fp) elt (tD X.K Tb W0 fe))
    (hv : ∀ i ∈ t.ixs, i ∈ own.map (·.2) := by decide) (hs : ∀ x, foldedSetIterable iter X.env x = pure x := by intro _; rfl) : PE X (.ListComp elt [⟨tg, iter, ifs, 0⟩] scope pos) (tN X.K Tb W (dLc fi t ft fe (own.map (·.2)))) :=
  (pe_lc hc hN hi ok hg ht he hs).by fun σ H Q h => lc_walkN hv h

/-! ### what changes an own list -/
/-- the list at slot i, at the place of a method's receiver -/
theorem own_at {K : PySem.W.Frag} {H0 H : Hp} {O0 O : List Addr} {ρ : Rho} {σ : L2.St} {D : Ends} {i : Nat} {k : List PyData → Out} (st : St0 K Tb H0 O0 O H σ ρ) (h : PostS K Tb W H0 O0 (ownAt ρ i k) D) :
    ∃ ds p vs, ρ[i]? = some (some (.own ds)) ∧ σ[i]? = some (some (.ref p)) ∧ H p = some (.lst vs) ∧ ds.length ≤ sizeLine ∧ RpAll K (hide O H) vs ds ∧ PostS K Tb W H0 O0 (k ds) D := by
  unfold ownAt at h
  split at h
  · rename_i ds e
    obtain ⟨v, h1, p, vs, rfl, m, m0, hp, z, r⟩ := st.slot i _ e
    exact ⟨ds, p, vs, e, h1, hp, z, r, h⟩
  · exact h.elim
theorem fs_app {i : Nat} {apos npos cpos : Pos} (ho : X.N[i]? = some x) (hv : Vis X.env.scope x) (hd : (x == ("__debug__" : Str)) = false) (hcd : (x == ("__classdict__" : Str)) = false) (ha : PE X e (tD X.K Tb W f))
    (hse : starEach [e] X.env = (false, eval e X.env) :: starEach [] X.env) (hbase : attributeBase (.Name x npos) "append" X.env (eval (.Name x npos) X.env) = eval (.Name x npos) X.env)
    (hfew : ((backTo cpos (starEach [e] X.env)).all (fun x => !x.1) && (backToKw cpos (keywordEach [] X.env)).all (fun x => x.1.isSome)
      && decide (([e] : List Expr).length + ([] : List Keyword).length + (if ([] : List Keyword).isEmpty then 0 else 1) < 30)) = true)
    (hline : (apos.endLine == cpos.line) = true) (hplain : (backTo cpos (starEach [] X.env)).any (·.1) = false)
    (hs : swapsWith (.Call (.Attribute (.Name x npos) "append" apos) [e] [] cpos) none pos.line X.env = pure false) :
    PS X (.Expr (.Call (.Attribute (.Name x npos) "append" apos) [e] [] cpos) pos) (tS X.K Tb W (gApp i f)) :=
  (ps_expr (pe_bm PySem.F.plainAttrs_list PySem.F.slot_list_append PySem.F.type_list_append mt_append (pe_var ho hv hd hcd) (pa_cons ha pa_nil hse) hbase hfew hline hse hplain) hs).by fun D σ H ⟨H0, O0, O, ρ, st, h⟩ => by
    obtain ⟨ds, p, vs, e1, e2, hp, z, r, h⟩ := own_at st h
    refine ⟨.ref p, e2, .inl ⟨rfl, vs, .of hp⟩, H0, O0, O, ρ, st, oR_post st h fun d v H1 ex rv k => ?_⟩
    split at k
    · rename_i hl
      refine ⟨p, vs, v, rfl, rfl, ex.keep p _ hp (fun _ q => by cases q), by rw [r.length]; exact hl, k O σ _ ((st.step ex).ownSet e1 e2 ?_ ?_)⟩
      · rw [List.length_append]; simp; exact hl
      · exact (r.mono (Sub.hide ex.keep)).append (.one rv)
    · exact k.elim
end

/-! ### defs -/
def startR (n : Nat) (ds : List PyData) : Rho := ds.map (fun d => some (.d d)) ++ List.replicate (n - ds.length) none
def endR : Out → R PyData
  | .nx _ => .ok .none
  | .rt d => .ok d
  | .exc e _ => .exc e
  | _ => .bad
def runD (n p : Nat) (g : Sn) : List PyData → R PyData := fun ds => if ds.length = p then endR (g (startR n ds)) else .bad
def spD (K : PySem.W.Frag) (Tb : List Addr) (m : List PyData → R PyData) : Sp := fun vs H Q E => ∃ O ds, Al O H ∧ (∀ P ∈ Tb, TabC H P) ∧ RpAll K (hide O H) vs ds ∧ Post K O (RlD K O) E H (m ds) Q
def WE (E : XK) : WX := fun c d _ H => E c d H
theorem lets_of {X : Cx} {W : WX} (tk : Takes X W) (σ : L2.St) : PassesAt (L2.CX X.prog X.w) X σ (L2.WE W σ) := passAt tk σ
theorem lets0 {X : Cx} (σ : L2.St) : PassesAt (L2.CX X.prog X.w) X σ (L2.WE W0 σ) := fun _ _ _ _ _ _ h => by
  obtain ⟨_, _, _, _, _, _, _, _, _, _, _, _, z⟩ := h
  exact z.elim
section
variable {P : Program} {w : World} {K : PySem.W.Frag} {mg : Str → Option Value} {base : Heap} {Tb : List Addr}
/-- a def, by its body -/
theorem fn_okD {x qual : Str} {st : Stmt} {f : Addr} {fd : FuncData} {N ps : List Str} {k : Nat} {g : Sn} (F : Fun K x qual st f fd) (S : FnScope N ps (defScope st))
    (hb : ∀ (cdv : Value) (A : Around) (outer : List Env) (s : Shared) (H : Hp) (E : XK), Room k (A.deeper (envOfC qual (defScope st) s.heap.objs.size f cdv)) →
      PSs (cxOf (L2.CX P w) P w K mg base N qual (defScope st) f cdv A outer s H E) (defBody st) (tS K Tb (WE E) g)) :
    FnOk P w K mg base (L2.CX P w) (k + 1) f fd ps (spD K Tb (runD N.length ps.length g)) := by
  refine F.okX S (fun vs H Q E h => ?_) fun cdv A outer s H vs Q E hr h => ⟨_, hb cdv A outer s H E hr, ?_⟩
  · obtain ⟨O, ds, al, tb, r, h⟩ := h
    unfold runD at h
    split at h
    · rename_i e
      rw [r.length]; exact e
    · exact h.elim
  · obtain ⟨O, ds, al, tb, r, h⟩ := h
    unfold runD at h
    split at h
    · rename_i e
      have st := St0.init (N.length - ds.length) al tb r
      refine ⟨H, O, O, startR N.length ds, ?_, ?_⟩
      · unfold L2.start startR
        rw [r.length]
        exact st
      · cases q : g (startR N.length ds) with
        | nx ρ => rw [q] at h; exact fun O' σ' H' st' => h .non H' st'.ext .non
        | rt d => rw [q] at h; exact fun v H' e' r' => h v H' e' r'
        | exc x ρ => rw [q] at h; exact fun O' σ' H' c d st' ex => h c d H' st'.ext (by
            obtain ⟨h1, h2⟩ := ex
            refine ⟨h1, ?_⟩
            rcases h2 with h2 | ⟨dd, fs, h3, h4, h5, h6⟩
            · exact .inl h2
            · exact .inr ⟨dd, fs, h3, h4, h5, h6.mono (Sub.less st'.sub)⟩)
        | bk ρ => rw [q] at h; exact h.elim
        | ct ρ => rw [q] at h; exact h.elim
        | bad => rw [q] at h; exact h.elim
    · exact h.elim
end
section
variable {X : Cx} {Tb : List Addr} {W : WX} {k : Nat} {f : Addr} {fd : FuncData} {ps : List Str} {m : List PyData → R PyData} {x : Str} {p pos : Pos} {e : Expr} {es : List Expr} {gl : DnL}
theorem fd_call (F : FnOk X.prog X.w X.K X.mg X.base (L2.CX X.prog X.w) k f fd ps (spD X.K Tb m)) (hr : Room k X.A) (hg : Gl X x) (hm : X.mg x = some (.ref f)) (hk : PySem.W.keepIn X.K (.ref f) = true) (hb : Binds X.K fd ps []) (hx : ∀ σ, PassesAt (L2.CX X.prog X.w) X σ (L2.WE W σ))
    (ha : PA X (e :: es) (tDs X.K Tb W gl)) (hdb : (x == ("__debug__" : Str)) = false := by decide) (he : starEach (e :: es) X.env = (false, eval e X.env) :: starEach es X.env := by rfl) (hpl : (backTo pos (starEach es X.env)).any (·.1) = false := by rfl) :
    PE X (.Call (.Name x p) (e :: es) [] pos) (tD X.K Tb W (dArg m gl)) := (pe_callS F hr hg hm hk hb hx ha hdb he hpl).by fun σ H Q ⟨H0, O0, O, ρ, st, h⟩ => ⟨H0, O0, O, ρ, st, by
  refine Post.then h fun ds vs H1 ex r k => ?_
  exact ⟨O, ds, (st.step ex).al, (st.step ex).tab, r, k⟩⟩
end
end PD

set_option Elab.async false
set_option linter.all false
set_option maxRecDepth 100000
set_option maxHeartbeats 1000000
namespace PySem.W
open PySem PySem.Calls PySem.SeqAt PyProof.Rows
section
variable {prog : Program} {w : World} {A : Around} {s : Shared}
/-- does a tuple have a first item -/
def hasFst : PyData → Bool
  | .tuple (_ :: _) => true
  | _ => false
theorem call_tuple_ltP {E : Value → Shared → Prop} {Q : Value → Shared → Prop} {l b : Addr} {items items2 : Array Value} {e r : Nat → Bool} (hl : s.heap.IsTuple l items) (hb : s.heap.IsTuple b items2)
    (he : ∀ j (h1 : j < items.size) (h2 : j < items2.size), EqAt A.in1 s items[j] items2[j] (e j)) (hr : ∀ j (h1 : j < items.size) (h2 : j < items2.size), e j = false → RcLt A.in1 s items[j] items2[j] (r j))
    (h : Q (.bool (firstLt e r (decide (items.size < items2.size)) (List.range (min items.size items2.size)))) s) : wpAny (model prog w) A (call (.builtin "tuple.__lt__") [.ref l, .ref b]) Q E s := by
  obtain ⟨⟨c1, d1, x1, l1⟩, ho, hc, n, hd⟩ := id hl
  obtain ⟨⟨c2, d2, x2, l2⟩, ho2, hc2, n2, hd2⟩ := id hb
  simp only at hc hd hc2 hd2
  subst hc hd hc2 hd2
  exact call_meets F.slot_tuple_lt ⟨_, ho, rfl⟩ F.entry_tuple_lt (F.args_tuple_lt_2 _ _) (tuple_ltAt l b items items2 n n2 d1 d2 l1 l2 e r) ⟨ho, ho2, he, hr, h⟩
theorem oneLt_tup {f : Bool} {xs ys : List PyData} {a b : Value} {as bs : List Addr} {Q : Bool → Shared → Prop} {E : Value → Shared → Prop} (ra : Reads s.heap a (.tuple xs) as) (rb : Reads s.heap b (.tuple ys) bs) (hal : alikeAll xs ys = true)
    (hu : A.units + min (PyData.tuple xs).depth (PyData.tuple ys).depth < cLine) (hq : Q (dataLt (.tuple xs) (.tuple ys)) s) : wpAny (model prog w) A (oneLt' f a b) Q E s := by
  cases f with
  | false => exact oneLt_alike (fun h => by cases h) ra rb (by simpa [alike] using hal) (fun h => by cases h) hu hq
  | true =>
    cases ra with
    | @tuple l o vs n _ as1 h1 h2 h3 h4 =>
      cases rb with
      | @tuple l' o' vs' n' _ bs1 k1 k2 k3 k4 =>
        have n1 : vs.size = xs.length := by simpa using SeqAt.ReadsAll.length _ _ _ h4
        have n2 : vs'.size = ys.length := by simpa using SeqAt.ReadsAll.length _ _ _ k4
        rw [dataLt_tuple, ← firstLt_toks xs ys hal, ← n1, ← n2] at hq
        rw [oneLt'_eq]
        simp only [if_true]
        refine wpAny_bind (wpAny_cRoomFor (SeqAt.room_here hu) ?_)
        refine wpAny_bind (wpAny_callSpecialIfBound?_slot (T := "tuple") ⟨_, h1, h2⟩ F.slot_tuple_lt (call_tuple_ltP (e := pairEq xs ys) (r := fun j => dataLt (xs.getD j .none) (ys.getD j .none)) ⟨_, h1, h2, _, h3⟩ ⟨_, k1, k2, _, k3⟩ (fun j j1 j2 => ?_) (fun j j1 j2 hj => ?_) ?_))
        · have := eqAt_alikeAll xs ys A.in1 s vs.toList vs'.toList _ _ h4 k4 hal (SeqAt.room_in hu) j (by simpa using j1) (by simpa using j2)
          simpa using this
        · have := rcLt_alikeAll xs ys A.in1 s vs.toList vs'.toList _ _ h4 k4 hal (SeqAt.room_in hu) j (by simpa using j1) (by simpa using j2) hj
          simpa using this
        · exact wpAny_truthy_bool hq
theorem mapM_firsts {E : Value → Shared → Prop} : ∀ {vs : List Value} {ds : List PyData} {Q : List (Option Value) → Shared → Prop}, EachIs (fun v d => ∃ as, Reads s.heap v d as) vs ds → (∀ d ∈ ds, ∃ xs, d = .tuple xs) →
    (∀ rs : List (Option Value), rs.map (·.isSome) = ds.map hasFst → Q rs s) → wpAny (model prog w) A (vs.mapM firstOfTuple') Q E s
  | _, _, Q, .nil, _, h => by rw [List.mapM_nil]; exact wpAny_pure (h [] rfl)
  | _, _, Q, .cons (b := d) ⟨as, r⟩ t, ht, h => by
    rw [List.mapM_cons]
    obtain ⟨xs, rfl⟩ := ht d (List.mem_cons_self ..)
    cases r with
    | @tuple a o vs n _ _ ho hc hd hr =>
      refine wpAny_bind ?_
      rw [kas_first_eq]
      refine wpAny_bind (wpAny_typeOf_ref ho ?_)
      rw [hc, if_neg (by decide)]
      refine wpAny_bind (wpAny_listItems (prog := prog) (w := w) ho hd (wpAny_pure ?_))
      refine (wpAny_bind (mapM_firsts t (fun d hd => ht d (List.mem_cons_of_mem _ hd)) fun rs e => wpAny_pure (h _ ?_)))
      rw [List.map_cons, List.map_cons, e]
      congr 1
      have hl := SeqAt.ReadsAll.length _ _ _ hr
      cases xs with
      | nil =>
        have : vs.size = 0 := by simpa using hl
        simp [hasFst, this]
      | cons x xs =>
        have : 0 < vs.size := by simp at hl; omega
        simp [hasFst, this]
/-- tuples, some of them empty -/
theorem SortsAt.tuples {vs : List Value} {ds : List PyData} (e : EachIs (fun v d => ∃ as, Reads s.heap v d as) vs ds) (hal : AllAlike ds) (ht : ∀ d ∈ ds, ∃ xs, d = .tuple xs) (hu : ∀ d, d ∈ ds → A.units + d.depth < cLine) : SortsAt prog w A s (dataKind s.heap ds) vs := by
  by_cases hne : ∀ d ∈ ds, hasFst d = true
  · refine SortsAt.data e hal (.inl fun d hd => ?_) hu
    obtain ⟨xs, rfl⟩ := ht d hd
    have q := hne _ hd
    cases xs with
    | nil => cases q
    | cons x r => exact ⟨x, r, rfl⟩
  · refine ⟨fun v hv => ?_, ?_⟩
    · obtain ⟨d, hd, as, r⟩ := e.left v hv
      exact ⟨_, dataKind_some hal hd r⟩
    · have lt : ∀ f : Bool, ∀ (E : Value → Shared → Prop) (x y : Value) (a b : (dataKind s.heap ds).α) {Q : Bool → Shared → Prop}, (dataKind s.heap ds).keyOf x = some a → (dataKind s.heap ds).keyOf y = some b → Q ((dataKind s.heap ds).blt a b) s → wpAny (model prog w) A (oneLt' f x y) Q E s := by
        intro f E x y a b Q ha hb hq
        obtain ⟨d, as, hd, ra, rfl⟩ := dataKind_inv ha
        obtain ⟨d', as', hd', rb, rfl⟩ := dataKind_inv hb
        have hdd := hal d hd d' hd'
        have hroom : A.units + min d.depth d'.depth < cLine := Nat.lt_of_le_of_lt (Nat.add_le_add_left (Nat.min_le_left _ _) _) (hu d hd)
        obtain ⟨xs, rfl⟩ := ht d hd
        obtain ⟨ys, rfl⟩ := ht d' hd'
        exact oneLt_tup ra rb (by simpa [alike] using hdd) hroom hq
      have some0 : ∀ rs : List (Option Value), rs.map (·.isSome) = ds.map hasFst → ¬ (rs.toArray.all (·.isSome)) = true := fun rs er q => by
        apply hne
        intro d hd
        have q' : ∀ r ∈ rs, r.isSome = true := by simpa using q
        have m : hasFst d ∈ ds.map hasFst := List.mem_map.mpr ⟨d, hd, rfl⟩
        rw [← er] at m
        obtain ⟨r, hr, er2⟩ := List.mem_map.mp m
        rw [← er2]
        exact q' r hr
      cases ds with
      | nil => exact absurd (fun d hd => absurd hd (by simp)) hne
      | cons d0 r0 =>
        cases h0 : hasFst d0 with
        | true =>
          refine ⟨general', fun E x y a b Q ha hb hq => lt false E x y a b ha hb hq, fun h2 E Q hq => ?_⟩
          rw [keyKind'_eq, List.mapM_toArray, map_eq_pure_bind]
          refine wpAny_bind (wpAny_bind (mapM_firsts e ht fun rs er => wpAny_pure ?_))
          rw [if_neg (some0 rs er), if_pos ?_]
          · exact wpAny_pure hq
          · cases rs with
            | nil => cases er
            | cons r rr =>
              have : r.isSome = true := (List.cons.inj er).1.trans h0
              simpa using this
        | false =>
          refine ⟨oneType', fun E x y a b Q ha hb hq => lt true E x y a b ha hb hq, fun h2 E Q hq => ?_⟩
          rw [keyKind'_eq, List.mapM_toArray, map_eq_pure_bind]
          refine wpAny_bind (wpAny_bind (mapM_firsts e ht fun rs er => wpAny_pure ?_))
          rw [if_neg (some0 rs er), if_neg ?_]
          · rw [oneTypeOnly'_eq, List.mapM_toArray, map_eq_pure_bind]
            have hT : ∀ v ∈ vs, Looks (model prog w) s.heap (typeOf v) (Value.type "tuple") := fun v hv => by
              obtain ⟨d, hd, as, r⟩ := e.left v hv
              obtain ⟨xs, rfl⟩ := ht d hd
              exact looks_reads r
            cases vs with
            | nil => exact absurd h2 (by simp)
            | cons v1 vr =>
              refine wpAny_bind (wpAny_bind (wpAny_bind (kas_mapM (r := Value.type "tuple") _ (fun v hv Q' hq => (hT v hv).here hq) (wpAny_pure ?_))))
              have hall : ((List.map (fun _ => Value.type "tuple") (v1 :: vr)).toArray.all fun x => x == Value.type "tuple") = true := by
                simp only [List.all_toArray, List.all_map, List.all_eq_true]
                intro _ _
                exact beq_self_eq_true _
              have hz : (List.map (fun _ => Value.type "tuple") (v1 :: vr)).toArray[0]? = some (Value.type "tuple") := by simp
              rw [hz]
              simp only [hall, if_true]
              exact wpAny_pure (wpAny_pure hq)
          · cases rs with
            | nil => simp
            | cons r rr =>
              have : r.isSome = false := (List.cons.inj er).1.trans h0
              simpa using this
end
end PySem.W
namespace PD
open PySem PySem.Spec PyProof.Rows L2
/-! ### sorted -/
/-! ### sorted of a tuple -/
section
variable {prog : Program} {w : World} {A : Around} {E : Value → Shared → Prop} {s : Shared}
theorem gather_tup {l : Addr} {vs : List Value} {Q : List Value → Shared → Prop} (hl : IsTup s.heap l vs.toArray)
    (h : Q vs { s with heap := (s.heap.push (seqObj "list" #[] 0)).update s.heap.objs.size (Obj.mapSeq (· ++ vs.toArray)) }) (hsz : vs.length ≤ sizeLine) :
    wpAny (model prog w) A (collect (.ref l)) Q E s := by
  obtain ⟨o, ho, hc, n, hd⟩ := id hl
  unfold collect
  refine wpAny_bind (wpAny_runValue (codeAny_builtin entry_proto_collect' ?_))
  show wpAny _ _ (do again (.builtin "list.__iadd__" ⟨[← newList [], .ref l], []⟩)) _ _ s
  refine wpAny_bind (wpAny_newList (wpAny_pure ⟨Code.quiet_builtin _ (by decide +kernel), codeAny_builtin entry_list_iadd' ?_⟩))
  show wpAny _ _ (Builtin.List.listExtendWith (.ref s.heap.objs.size) (.ref l) (.ref s.heap.objs.size)) _ _ { s with heap := s.heap.push (seqObj "list" #[] 0) }
  unfold Builtin.List.listExtendWith
  have ho' : (s.heap.push (seqObj "list" #[] 0)).get? l = some o := Heap.get?_push_of_some _ ho
  refine wpAny_bind (wpAny_typeOf (T := "tuple") ⟨o, ho', hc⟩ ?_)
  have ht : (Value.type "tuple" == Value.type "tuple") = true := by rfl
  rw [if_pos (by rw [ht]; simp)]
  refine wpAny_bind (listItems_at ho' hd ?_)
  refine wpAny_bind (listItems_at (xs := #[]) (n := 0) (Heap.get?_push_size _ rfl) rfl ?_)
  rw [if_neg (by simp)]
  refine wpAny_bind (listUpdate_at (xs := #[]) (n := 0) (Heap.get?_push_size _ rfl) rfl ?_ (Nat.zero_le _) (by show (#[] ++ vs.toArray).size ≤ sizeLine + 1; simp only [Array.size_append, List.size_toArray, List.length_nil]; omega))
  refine wpAny_pure ?_
  show wpAny (model prog w) A (do
      let o ← load s.heap.objs.size
      match o.data with
      | .seq xs _ => pure xs.toList
      | _ => unsupported "internal:collect") Q E { s with heap := (s.heap.push (seqObj "list" #[] 0)).update s.heap.objs.size (Obj.mapSeq (· ++ vs.toArray)) }
  refine wpAny_bind (wpAny_load (get?_update_seq (Heap.get?_push_size _ rfl) _) ?_)
  show wpAny _ _ (pure ((#[] : Array Value) ++ vs.toArray).toList) Q E _
  rw [show ((#[] : Array Value) ++ vs.toArray).toList = vs by simp]
  exact wpAny_pure h
theorem sorted_tup {κ : PyProof.Rows.KeyKind} {l : Addr} {vs : List Value} {Q : Value → Shared → Prop} (hl : IsTup s.heap l vs.toArray) (S : PySem.W.SortsAt prog w A.in1.in1 { s with heap := PySem.W.sortingHeap (PySem.W.copyHeap s.heap vs) (s.heap.objs.size + 1) vs } κ vs) (hL : vs.length ≤ sizeLine)
    (h : Q (.ref (s.heap.objs.size + 1)) { s with heap := sortedAll s.heap vs (PySem.W.sortVals κ false vs vs).toArray }) : wpAny (model prog w) A (call (.builtin "sorted") [.ref l]) Q E s := by
  refine call_function_entry_kw kind_sorted plain_sorted entry_sorted (args_sorted1 _) ?_
  unfold Builtin.«sorted»
  refine wpAny_bind (m := checkCount "sorted" 1 1 _) (wpAny_pure ?_)
  refine wpAny_bind (gather_tup hl ?_ hL)
  refine wpAny_bind (wpAny_newList ?_ hL)
  have hsz : ((s.heap.push (seqObj "list" #[] 0)).update s.heap.objs.size (Obj.mapSeq (· ++ vs.toArray))).objs.size = s.heap.objs.size + 1 := by
    rw [Heap.size_update]; exact Heap.size_push ..
  show wpAny _ _ _ _ _ { s with heap := PySem.W.copyHeap s.heap vs }
  rw [hsz]
  refine wpAny_bind (wpAny_holding (wpAny_call_entry_kw slot_list_sort ⟨_, PySem.W.copyHeap_at s.heap vs, rfl⟩ entry_list_sort ?body (args_list_sort _)))
  case body =>
    show wpAny (model prog w) A.in1.in1 (Builtin.«list.sort» ⟨[.ref (s.heap.objs.size + 1)], []⟩) _ _ _
    refine PySem.W.list_sort_vals (s := { s with heap := PySem.W.copyHeap s.heap vs }) (PySem.W.copyHeap_at s.heap vs) S hL ?_
    exact ⟨_, rfl, wpAny_pure ⟨_, rfl, h⟩⟩
end
def allTup (ds : List PyData) : Bool := ds.all fun d => match d with | .tuple _ => true | _ => false
def allNot (ds : List PyData) : Bool := ds.all fun d => match d with | .tuple _ => false | .none => false | _ => true
def allAlike (ds : List PyData) : Bool := ds.all fun d => ds.all fun e => PySem.W.alike d e
def okSort (ds : List PyData) : Bool := allAlike ds && (allTup ds || allNot ds) && ds.all fun d => decide (d.depth ≤ 60)
def sortD (ds : List PyData) : List PyData := ds.mergeSort (PySem.W.dataLe false id)
def bSorted : List PyData → R PyData
  | [.list xs] => if okSort xs = true then .ok (.list (sortD xs)) else .bad
  | [.tuple xs] => if okSort xs = true then .ok (.list (sortD xs)) else .bad
  | _ => .bad
mutual
theorem nod_of_alike : ∀ {d : PyData}, PySem.W.alike d d = true → nod d = true
  | .none, _ => rfl
  | .bool _, _ => rfl
  | .int _, _ => rfl
  | .str _, _ => rfl
  | .list xs, h => by
    rw [PySem.W.alike] at h
    exact nodAll_of_alike (xs := xs) h
  | .tuple xs, h => by
    rw [PySem.W.alike] at h
    exact nodAll_of_alike (xs := xs) h
  | .dict _, h => by simp [PySem.W.alike] at h
theorem nodAll_of_alike : ∀ {xs : List PyData}, PySem.W.alikeAll xs xs = true → nodAll xs = true
  | [], _ => rfl
  | x :: xs, h => by
    rw [PySem.W.alikeAll, Bool.and_eq_true] at h
    show (nod x && nodAll xs) = true
    rw [Bool.and_eq_true]
    exact ⟨nod_of_alike h.1, nodAll_of_alike h.2⟩
end
section
variable {X : Cx} {K : PySem.W.Frag}
theorem rpAll_reads {pins : List (Addr × Obj)} {σ : L2.St} {H : Hp} {s : Shared} {G : Hp} (I : Inv X pins σ H s) (sub : Sub G H) : ∀ {xs : List V} {ds : List PyData} {us : List Value}, RpAll X.K G xs ds → Vals xs us → (∀ d ∈ ds, nod d = true) → PySem.W.EachIs (fun v d => ∃ as, Reads s.heap v d as) us ds
  | _, _, _, .nil, .nil, _ => .nil
  | _, _, _, .cons r t, .cons q u, h => .cons (Dp.reads I _ _ _ ((r.mono sub).dp (h _ List.mem_cons_self)) q) (rpAll_reads I sub t u fun d hd => h d (List.mem_cons_of_mem _ hd))
theorem rpAll_each {G : Hp} : ∀ {xs : List V} {ds : List PyData} {us : List Value}, RpAll K G xs ds → Vals xs us → PySem.W.EachIs (fun u d => ∃ v, RelV v u ∧ Rp K G v d) us ds
  | _, _, _, .nil, .nil => .nil
  | _, _, _, .cons r t, .cons q u => .cons ⟨_, q, r⟩ (rpAll_each t u)
theorem each_rpAll {G : Hp} : ∀ {us : List Value} {ds : List PyData}, PySem.W.EachIs (fun u d => ∃ v, RelV v u ∧ Rp K G v d) us ds → ∃ xs, Vals xs us ∧ RpAll K G xs ds
  | _, _, .nil => ⟨[], .nil, .nil⟩
  | _, _, .cons ⟨v, q, r⟩ t => by
    obtain ⟨xs, h1, h2⟩ := each_rpAll t
    exact ⟨v :: xs, .cons q h1, .cons r h2⟩
def rSortD (K : PySem.W.Frag) : List V → Hp → VK → Prop := fun vs H Q => ∃ (G : Hp) (a : Addr) (xs : List V) (ds : List PyData), vs = [V.ref a] ∧ Sub G H ∧ (SqL K H a xs ∨ SqT K H a xs) ∧ RpAll K G xs ds ∧ okSort ds = true ∧
  ∀ p ys, H p = none → ys.length = xs.length → RpAll K G ys (sortD ds) → Q (.ref p) (upd H p (.lst ys))
theorem okSort_of {ds : List PyData} (h : okSort ds = true) : PySem.W.AllAlike ds ∧ ((∀ d ∈ ds, ∃ xs, d = .tuple xs) ∨ ∀ d ∈ ds, d ≠ .none ∧ ∀ xs, d ≠ .tuple xs) ∧ ∀ d ∈ ds, d.depth ≤ 60 := by
  unfold okSort at h
  rw [Bool.and_eq_true, Bool.and_eq_true, Bool.or_eq_true] at h
  obtain ⟨⟨h1, h2⟩, h3⟩ := h
  refine ⟨fun d hd e he => ?_, ?_, fun d hd => ?_⟩
  · unfold allAlike at h1
    rw [List.all_eq_true] at h1
    have := h1 d hd
    rw [List.all_eq_true] at this
    exact this e he
  · rcases h2 with h2 | h2
    · refine .inl fun d hd => ?_
      unfold allTup at h2
      rw [List.all_eq_true] at h2
      have := h2 d hd
      cases d <;> first | exact ⟨_, rfl⟩ | cases this
    · refine .inr fun d hd => ?_
      unfold allNot at h2
      rw [List.all_eq_true] at h2
      have := h2 d hd
      cases d <;> first | exact absurd this Bool.false_ne_true | exact ⟨by simp, by simp⟩
  · rw [List.all_eq_true] at h3
    exact of_decide_eq_true (h3 d hd)
theorem cr_sortD (hu : X.A.units + 64 < cLine) : CallR X (.builtin "sorted") (rSortD X.K) := by
  intro pins s σ H vs us Q I r h
  obtain ⟨G, a, xs, ds, rfl, sub, hs, ra, ok, q⟩ := h
  obtain ⟨al, kind, dep⟩ := okSort_of ok
  obtain ⟨its, rv, hl, hz⟩ : ∃ its : List Value, Vals xs its ∧ (s.heap.IsList a its.toArray ∨ IsTup s.heap a its.toArray) ∧ xs.length ≤ sizeLine := by
    rcases hs with hs | hs
    · obtain ⟨its, rv, hl, hz⟩ := I.list hs
      exact ⟨its, rv, .inl hl.isList, hz⟩
    · obtain ⟨its, rv, hl, hz⟩ := I.tuple hs
      exact ⟨its, rv, .inr hl, hz⟩
  rw [Vals.ref1 r]
  have er := rpAll_reads I sub ra rv fun d hd => nod_of_alike (al d hd d hd)
  have ev := rpAll_each ra rv
  have er' : PySem.W.EachIs (fun v d => ∃ as, Reads (PySem.W.sortingHeap (PySem.W.copyHeap s.heap its) (s.heap.objs.size + 1) its) v d as) its ds := er.mono fun _ _ ⟨as, r⟩ => ⟨as, PyProof.Rows.Reads.keeps (fun _ _ => PySem.W.sorting_copy_old) r⟩
  have hlen := rv.length
  have hu2 : ∀ d, d ∈ ds → X.A.in1.in1.units + d.depth < cLine := fun d hd => by
    have h1 := dep d hd
    show X.A.units + 1 + 1 + d.depth < cLine
    omega
  have S : PySem.W.SortsAt X.prog X.w X.A.in1.in1 { s with heap := PySem.W.sortingHeap (PySem.W.copyHeap s.heap its) (s.heap.objs.size + 1) its } (PySem.W.dataKind (PySem.W.sortingHeap (PySem.W.copyHeap s.heap its) (s.heap.objs.size + 1) its) ds) its := by
    rcases kind with k | k
    · exact PySem.W.SortsAt.tuples (s := { s with heap := PySem.W.sortingHeap (PySem.W.copyHeap s.heap its) (s.heap.objs.size + 1) its }) er' al k hu2
    · exact PySem.W.SortsAt.data (s := { s with heap := PySem.W.sortingHeap (PySem.W.copyHeap s.heap its) (s.heap.objs.size + 1) its }) er' al (.inr k) hu2
  refine (hl.elim (fun hl h => PySem.W.sorted_vals hl S (by rw [← hlen]; exact hz) h) (fun hl h => sorted_tup hl S (by rw [← hlen]; exact hz) h) : (_ → wpAny _ _ _ _ _ _)) ?_
  have eo := PySem.W.sortVals_data (h' := PySem.W.sortingHeap (PySem.W.copyHeap s.heap its) (s.heap.objs.size + 1) its) (enc := id) false ev (er'.mono fun _ _ h => h) (by rw [List.map_id]; exact al)
  rw [List.map_id] at eo
  obtain ⟨ys, hy1, hy2⟩ := each_rpAll eo
  obtain ⟨ep, he⟩ := PyProof.Rows.sortedAll_at s.heap its (PySem.W.sortVals (PySem.W.dataKind (PySem.W.sortingHeap (PySem.W.copyHeap s.heap its) (s.heap.objs.size + 1) its) ds) false its its).toArray
  have hyl : ys.length = xs.length := by
    rw [hy2.length, ra.length]
    exact List.length_mergeSort ds
  exact ⟨.ref _, upd H (s.heap.objs.size + 1) (.lst ys), I.laid (t' := s.toks) (fun _ _ => PyProof.Rows.sortedAll_old) (Nat.le_succ _) ⟨by rw [hyl]; exact hz, _, ep, hy1, he⟩, rfl, q _ ys (I.hok.fresh (Nat.le_succ _)) hyl hy2⟩
theorem ok_sorted : OkL K (rSortD K) bSorted := by
  intro O H Wx vs ds Q al r h
  unfold bSorted at h
  split at h
  · split at h
    · rename_i xs ok
      cases r with
      | cons r1 r2 =>
        cases r2
        cases r1 with
        | lst h1 z1 a1 =>
          refine ⟨hide O H, _, _, _, rfl, Sub.unhide, .inl (Sub.unhide.sqL h1), a1, ok, fun p ys hp hy ry => Post.newLst al h ?_ ry p hp⟩
          have : (sortD xs).length = xs.length := List.length_mergeSort xs
          rw [this]; exact z1
    · exact h.elim
  · split at h
    · rename_i xs ok
      cases r with
      | cons r1 r2 =>
        cases r2
        cases r1 with
        | tup h1 z1 a1 =>
          refine ⟨hide O H, _, _, _, rfl, Sub.unhide, .inr (Sub.unhide.sqT h1), a1, ok, fun p ys hp hy ry => Post.newLst al h ?_ ry p hp⟩
          have : (sortD xs).length = xs.length := List.length_mergeSort xs
          rw [this]; exact z1
    · exact h.elim
  · exact h.elim
end
end PD

set_option Elab.async false
set_option linter.all false
set_option maxRecDepth 100000
set_option maxHeartbeats 1000000
namespace PD
open PySem PySem.Spec PyProof.Rows L2 GenW

/-! ### the context of a generator expression's run -/
abbrev GX (X : Cx) (A : Around) (s : Shared) (H : Hp) (cenv : Env) (fp : List Addr) (pn : List (Addr × Obj)) : Cx :=
  { X with A := A.deeper cenv, s_0 := s, H_0 := H, env := cenv, outer := X.stack, stack := cenv :: X.stack, ex := fp, fn := fun _ => false, pn := pn, xe := fun _ _ => False }
abbrev genE (X : Cx) (scope : Scope) (C : Addr) (code : Value) : Env := genEnv scope (cloFrom X.env.cells scope.names []) C code builtinsNs X.env
theorem gen_start {X : Cx} {pins : List (Addr × Obj)} {σ : L2.St} {H : Hp} {s s5 : Shared} {scope : Scope} {own : List (Str × Nat)} {fp : List Addr} {A : Around} {code : Value} {m : Str → Option Value} {a : Addr} {o : Obj}
    (I : Inv X pins σ H s) (ok : BlkOk X.N X.env.scope scope own) (nc : ∀ y ∈ scope.names, y.2 ≠ .cell) (hN : X.N.Nodup) (hfp : ∀ b ∈ fp, FpOk X pins H b ∧ b < s.heap.objs.size) (hh : A.handled = none) (hf : A.frames = some X.stack)
    (h5 : s5.heap.Ns s.heap.objs.size m) (kp : ∀ b o, s.heap.get? b = some o → s5.heap.get? b = some o) (os : s5.os = s.os) (bare : AllBare s5.gens) (ha : s5.heap.get? a = some o) (la : s.heap.objs.size < a) (nd : ∀ v, o.data ≠ .cell v) :
    Inv (GX X A s H (genE X scope s.heap.objs.size code) fp [(a, o)]) [] (L2.wipe σ (own.map (·.2))) H s5 := by
  have hfree : ∀ y ∈ scope.names, y.2 = .free → ∃ c, X.env.cells.lookup y.1 = some c := fun y hy e => by
    rcases ok.free y hy e with k | k
    · exact I.ok.has _ (.inl k)
    · exact I.ok.has _ (.inr k)
  have cm : ∀ {y c}, (y, c) ∈ cloFrom X.env.cells scope.names [] → X.env.cells.lookup y = some c ∧ c < s.heap.objs.size := fun {y c} hm => by
    rcases cloFrom_mem hm with hm | ⟨h1, rfl⟩
    · cases hm
    · obtain ⟨c, hc⟩ := hfree _ h1 rfl
      rw [hc]
      obtain ⟨w, z⟩ := I.cell _ _ hc
      exact ⟨rfl, z.lt⟩
  have mem : ∀ {y c}, (cloFrom X.env.cells scope.names []).lookup y = some c → X.env.cells.lookup y = some c ∧ c < s.heap.objs.size := fun {y c} e => cm (PySem.mem_of_lookup e)
  have look : ∀ {y}, scope.names.lookup y = some .free → ∃ c, (cloFrom X.env.cells scope.names []).lookup y = some c := fun {y} hl =>
    mem_lookup (cloFrom_has (cells := X.env.cells) (acc := []) (PySem.mem_of_lookup hl))
  have noC : ∀ y, scope.names.lookup y ≠ some .cell := fun y e => nc _ (PySem.mem_of_lookup e) rfl
  have okB : (GX X A s H (genE X scope s.heap.objs.size code) fp [(a, o)]).Ok := by
    refine ⟨I.ok.mod, ok.kind, I.ok.glob, rfl, Nat.le_refl _, fun y z c e1 e2 => ?_, fun y hy => ?_, fun y c z e => (nomatch z), fun _ => hh, ?_, .inr ⟨rfl, rfl⟩, fun b hb => ⟨?_, fun y c e z => ?_⟩, I.bs, Nat.le_trans I.ok.bsz I.sz, fun b o e hb => ?_, fun b hb z => ?_, I.stack, I.stkFree⟩
    · exact I.ok.inj y z c (mem e1).1 (mem e2).1
    · rcases hy with hy | hy
      · exact absurd hy (noC y)
      · exact look hy
    · show Option.map _ A.frames = _
      rw [hf]; rfl
    · exact Nat.ne_of_lt (hfp b hb).2
    · exact (hfp b hb).1.2.2.2.2.1 y c (mem e).1 z
    · rcases (hfp b hb).1.2.2.2.1 with z | z
      · exact I.ok.noex b o e z
      · exact absurd (Nat.lt_of_lt_of_le (Heap.lt_size e) (Nat.le_trans I.ok.bsz z)) (Nat.lt_irrefl _)
    · rcases List.mem_cons.mp (I.stkSub b z) with z | z
      · exact (hfp b hb).1.2.1 z
      · exact (hfp b hb).1.2.2.1 z
  refine ⟨okB, os, bare, Un.kept kp, ⟨m, h5, fun i y av e1 e2 e3 => ?_⟩, fun y c e => ?_, I.hok.fresh (Nat.le_refl _), fun y c e => ?_, fun p hp => ?_, I.hok.kept kp, by rw [wipe_length]; exact I.len⟩
  · obtain ⟨e2, hne⟩ := wipe_some e2
    have hfr : scope.names.lookup y = some .free := by
      have no : ∀ k', scope.names.lookup y = some k' → ¬ (k' = .local ∨ k' = .cell) := fun k' e hh => by
        rcases ok.own _ (PySem.mem_of_lookup e) hh with e' | e'
        · obtain ⟨p, hp, hpy⟩ := List.mem_map.mp e'
          have e3 := ok.ix p hp
          have : p.1 = y := hpy
          rw [this] at e3
          exact hne (List.mem_map.mpr ⟨p, hp, nodup_ix hN e3 e1⟩)
        · exact e' (List.mem_of_getElem? e1)
      have e3 : Vis scope y := e3
      rcases e3 with e3 | e3 | e3
      · exact absurd (.inl rfl) (no _ e3)
      · exact absurd (.inr rfl) (no _ e3)
      · exact e3
    obtain ⟨m, hn, hl⟩ := I.loc
    have hvis : Vis X.env.scope y := (ok.free _ (PySem.mem_of_lookup hfr) rfl).elim (fun k => .inr (.inl k)) (fun k => .inr (.inr k))
    obtain ⟨w, r, q⟩ := hl i y av e1 e2 hvis
    refine ⟨w, r, .inr ⟨.inr hfr, ?_⟩⟩
    obtain ⟨c, h1⟩ := look hfr
    rcases q with ⟨k, _⟩ | ⟨_, c', e', z⟩
    · have k : X.env.scope.names.lookup y = some .local := k
      rcases ok.free _ (PySem.mem_of_lookup hfr) rfl with k' | k' <;> rw [show X.env.scope.names.lookup y = _ from k'] at k <;> cases k
    · have h2 := (mem h1).1
      rw [h2] at e'; cases e'
      exact ⟨c, h1, z.keeps kp⟩
  · obtain ⟨w, z⟩ := I.cell y c (mem e).1
    exact ⟨w, z.keeps kp⟩
  · exact I.freeC y c (mem e).1
  · have hp : p ∈ [(a, o)] ++ ([] : List (Addr × Obj)) := hp
    have : p = (a, o) := by simpa using hp
    subst this
    refine ⟨ha, I.hok.fresh (Nat.le_of_lt la), Nat.ne_of_gt la, fun z => ?_, nd⟩
    rcases List.mem_cons.mp (I.stkSub a z) with z | z
    · have h1 := I.lt
      rw [← z] at h1
      exact absurd (Nat.lt_trans la h1) (Nat.lt_irrefl _)
    · exact I.nofs (Nat.le_of_lt la) z
/-- the same heap -/
theorem inv_gens {X : Cx} {pins : List (Addr × Obj)} {σ : L2.St} {H : Hp} {s s' : Shared} (I : Inv X pins σ H s) (hp : s'.heap = s.heap) (os : s'.os = s.os) (b : AllBare s'.gens) : Inv X pins σ H s' := by
  obtain ⟨h', g', d', t', o'⟩ := s'
  cases hp; cases os
  exact { I with bare := b }

/-! ### its run, turn by turn -/
theorem thnG {α : Type} {t : Sem α} {Q Q' : α → Shared → Prop} {M : Model} {A : Around} {E : Value → Shared → Prop} {s : Shared} {n : Nat} (hn : n ≤ s.gens.size) (h : wpAny M A t Q (fun _ _ => False) s) (hQ : ∀ a s, n ≤ s.gens.size → Q a s → Q' a s) : wpAny M A t Q' E s :=
  wpAny_gsz hn (wpAny_mono h (fun a s' q hz => hQ a s' hz q) fun _ _ z => z.elim)
def GI (XG : Cx) (fp : List Addr) (tn : Nat → Heap → Prop) (σw : L2.St) (W : Nat → Nat → Hp → Prop) (i m : Nat) (s : Shared) : Prop := ∃ H', Inv XG [] σw H' s ∧ tn i s.heap ∧ (∀ b ∈ fp, H' b = none) ∧ W i m H'
def FB (XG : Cx) (Q : VK) (b : Bool) (s : Shared) : Prop := ∃ pins' σ' H', Inv XG pins' σ' H' s ∧ Q (.bl b) H'
def Lk (s s' : Shared) : Prop := s'.heap = s.heap ∧ s'.os = s.os ∧ AllBare s'.gens
def genP (XG : Cx) (Q : VK) (stop : Bool) : Nat → Shared → Shared → Prop := fun _ s₀ s₁ => FB XG Q (!stop) s₁ ∧ s₀.gens.size ≤ s₁.gens.size
def genY (XG : Cx) (fp : List Addr) (tn : Nat → Heap → Prop) (σw : L2.St) (W : Nat → Nat → Hp → Prop) (Q : VK) (stop : Bool) : Protocol := fun _ s₀ v s₁ kap =>
  ∃ c : Bool, v = .bool c ∧ s₀.gens.size ≤ s₁.gens.size ∧ if c = stop then FB XG Q stop s₁ else (∃ i m, GI XG fp tn σw W i m s₁) ∧ ∀ s'', Lk s₁ s'' → kap (.send .none) s''
/-- what a turn is to do -/
def GTurn (J : It) (g : TG) (tt : TT) (te : TE) (vs : List Nat) (σw : L2.St) (W : Nat → Nat → Hp → Prop) (Q : VK) (stop : Bool) : Prop := ∀ i m H, W i m H →
  (J.stop i H ∧ Q (.bl (!stop)) H) ∨ (J.go i H ∧ ∃ Nx : Hp → Prop, (∀ H', Nx H' → ∃ m', m' < m ∧ W (i + 1) m' H') ∧ ∀ x H', J.yld i H x H' → g x σw H' fun σ2 H2 => L2.wipe σ2 vs = σw ∧ tt σ2 H2 fun b H3 =>
    if b = true then te σ2 H3 fun y H4 => ∃ c, y = .bl c ∧ if c = stop then Q (.bl stop) H4 else Nx H4 else Nx H3)
section
variable {X : Cx} {A : Around} {s4 : Shared} {H3 : Hp} {cenv : Env} {fp : List Addr} {pn : List (Addr × Obj)} {tg iter elt : Expr} {ifs : List Expr} {scope : Scope} {pos : Pos} {it : Addr} {J : It} {tn : Nat → Heap → Prop} {g : TG} {tt : TT} {te : TE} {vs : List Nat} {σw : L2.St} {W : Nat → Nat → Hp → Prop} {Q : VK} {stop : Bool}
theorem gen_seg (hc : X.calm = true) (hco : cenv.scope.isCoroutine = false) (T : Turn X.prog X.w X.K tg J fp it tn) (pg : PG (GX X A s4 H3 cenv fp pn) tg g) (pt : PTs (GX X A s4 H3 cenv fp pn) ifs tt) (pe : PE (GX X A s4 H3 cenv fp pn) elt te)
    (hpn : ∀ b ∈ fp, ∀ p ∈ pn, p.1 ≠ b) (hw : ∀ i v, σw[i]? = some (some v) → i ∉ vs) (turn : GTurn J g tt te vs σw W Q stop) :
    ∀ (m n i : Nat) (s₀ s : Shared), m + 1 ≤ n → GI (GX X A s4 H3 cenv fp pn) fp tn σw W i m s → s₀.gens.size ≤ s.gens.size →
      Seg (model X.prog X.w) A (fun n s₀ r s₁ => r = .ok .next ∧ genP (GX X A s4 H3 cenv fp pn) Q stop n s₀ s₁) (genY (GX X A s4 H3 cenv fp pn) fp tn σw W Q stop) n s₀
        (.compLoop (.GeneratorExp elt [⟨tg, iter, ifs, 0⟩] scope pos) 0 (.ref it) .none cenv) ((model X.prog X.w).den (.compLoop (.GeneratorExp elt [⟨tg, iter, ifs, 0⟩] scope pos) 0 (.ref it) .none cenv)) [] s := by
  have stat : ∀ {pins' : List (Addr × Obj)} {σ' : L2.St} {H' : Hp} {s' : Shared}, Inv (GX X A s4 H3 cenv fp pn) [] σ' H' s' → (∀ b ∈ fp, H' b = none) → ∀ b ∈ fp, FpOk (GX X A s4 H3 cenv fp pn) [] H' b := fun {pins' σ' H' s'} I' hn b hb =>
    ⟨hn b hb, (I'.ok.exf b hb).1, I'.ok.exfs b hb, .inl hb, fun x c e => (I'.ok.exf b hb).2 x c e, fun p hp => hpn b hb p (by simpa using hp)⟩
  intro m
  induction m using Nat.strongRecOn with
  | _ m ih =>
  rintro n i s₀ s hn ⟨H5, I5, st5, n5, w5⟩ hz
  show Seg _ A _ _ _ s₀ _ ((compTurn (.GeneratorExp elt [⟨tg, iter, ifs, 0⟩] scope pos) 0 (.ref it) .none cenv).onRaise (leaving cenv)) [] s
  rw [compTurn_gen, Sem.onRaise_eq_wrap]
  refine seg_bind_wrap (wpAny_standAt ?_)
  rcases turn i m H5 w5 with ⟨hstop, qq⟩ | ⟨go, Nx, hNx, step⟩
  · have td := T.done (GX X A s4 H3 cenv fp pn) rfl rfl rfl hc i [] s _ H5 (fun _ _ => False) I5 (stat (pins' := []) I5 n5) st5 hstop
    refine seg_bind_wrap (thnG hz td fun r s6 hz6 ⟨hr, I6⟩ => ?_)
    subst hr
    exact seg_end (.ok .next) ⟨rfl, ⟨_, _, _, I6, qq⟩, hz6⟩
  · have ti := T.item (GX X A s4 H3 cenv fp pn) rfl rfl rfl hc i [] s _ H5 (fun _ _ => False) I5 (stat (pins' := []) I5 n5) st5 go
    refine seg_bind_wrap (thnG hz ti fun r s6 hz6 ⟨u, hr, h6⟩ => ?_)
    subst hr
    refine seg_bind_wrap (thnG hz6 h6 fun _ s7 hz7 ⟨x, H7, I7, r7, y7, st7, n7⟩ => ?_)
    have I7' := I7.pinned (stat (pins' := []) I7 n7) (T.obj _ _ st7)
    refine seg_bind_wrap (thnG hz7 (pg.run _ s7 _ H7 x u _ I7' r7 (step x H7 y7)) fun _ s8 hz8 ⟨σ8, H8, I8, hw8, q8⟩ => ?_)
    refine seg_bind_wrap (thnG hz8 (pt.run _ s8 σ8 H8 _ I8 q8) fun b s9 hz9 ⟨H9, I9, q9⟩ => ?_)
    -- the turn's end
    have fin : ∀ {s' : Shared} {H' : Hp}, Inv (GX X A s4 H3 cenv fp pn) ([] ++ pinsAt fp s7.heap) σ8 H' s' → Nx H' → ∃ m', m' < m ∧ GI (GX X A s4 H3 cenv fp pn) fp tn σw W (i + 1) m' s' := fun {s' H'} I' nx => by
      obtain ⟨m', hm, w'⟩ := hNx H' nx
      have pin' : ∀ b ∈ fp, ∀ o, s7.heap.get? b = some o → s'.heap.get? b = some o ∧ H' b = none := fun b hb o e =>
        let z := I'.pin (b, o) (List.mem_append_right _ (List.mem_append_right _ (mem_pinsAt hb e)))
        ⟨z.1, z.2.1⟩
      have hl : σw.length = σ8.length := by rw [← hw8, wipe_length]
      refine ⟨m', hm, H', (I'.unpinned (pins := [])).weak hl (fun j v e => ?_), T.keep _ _ _ st7 fun b hb o e => (pin' b hb o e).1, fun b hb => ?_, w'⟩
      · rw [← hw8] at e
        exact (wipe_some e).1
      · obtain ⟨o, e, _⟩ := T.obj _ _ st7 b hb
        exact (pin' b hb o e).2
    cases b with
    | false =>
      simp only [Bool.false_eq_true, if_false] at q9 ⊢
      obtain ⟨m', hm, gi⟩ := fin I9 q9
      exact seg_again rfl (ih m' hm n (i + 1) s₀ s9 (by omega) gi hz9)
    | true =>
      simp only [if_true] at q9 ⊢
      have hy : ∀ v, yieldOut cenv v = yieldValue v := fun v => by simp only [yieldOut, hco, Bool.false_eq_true, if_false]
      simp only [hy]
      rw [Sem.bind_eq_wrap', Sem.bind_eq_wrap', Sem.wrap_wrap, Sem.wrap_wrap]
      refine seg_wrap (thnG hz9 (pe.run _ s9 σ8 H9 _ I9 q9) fun z s10 hz10 ⟨yv, H10, I10, r10, c, hyc, qc⟩ => ?_)
      subst hyc
      obtain rfl : z = Value.bool c := r10
      obtain ⟨n', rfl⟩ : ∃ n', n = n' + 1 := ⟨n - 1, by omega⟩
      refine seg_at (seg_yield rfl rfl rfl ⟨c, rfl, hz10, ?_⟩)
      by_cases hcs : c = stop
      · rw [if_pos hcs] at qc ⊢
        exact ⟨_, _, _, I10, qc⟩
      · rw [if_neg hcs] at qc ⊢
        obtain ⟨m', hm, gi⟩ := fin I10 qc
        refine ⟨⟨_, _, gi⟩, fun s'' lk => ?_⟩
        obtain ⟨H', I', t', n', w'⟩ := gi
        exact seg_again rfl (ih m' hm _ (i + 1) s'' s'' (by omega) ⟨H', inv_gens I' lk.1 lk.2.1 lk.2.2, by rw [lk.1]; exact t', n', w'⟩ (Nat.le_refl _))
theorem gen_begin (hc : X.calm = true) (hco : cenv.scope.isCoroutine = false) (T : Turn X.prog X.w X.K tg J fp it tn) (pg : PG (GX X A s4 H3 cenv fp pn) tg g) (pt : PTs (GX X A s4 H3 cenv fp pn) ifs tt) (pe : PE (GX X A s4 H3 cenv fp pn) elt te)
    (hpn : ∀ b ∈ fp, ∀ p ∈ pn, p.1 ≠ b) (hw : ∀ i v, σw[i]? = some (some v) → i ∉ vs) (turn : GTurn J g tt te vs σw W Q stop) {m : Nat} {s : Shared} (h : GI (GX X A s4 H3 cenv fp pn) fp tn σw W 0 m s) :
    Seg (model X.prog X.w) A (fun n s₀ r s₁ => r = .ok .next ∧ genP (GX X A s4 H3 cenv fp pn) Q stop n s₀ s₁) (genY (GX X A s4 H3 cenv fp pn) fp tn σw W Q stop) (m + 1) s
      (.compStart (.GeneratorExp elt [⟨tg, iter, ifs, 0⟩] scope pos) 0 (.ref it) .none cenv) ((model X.prog X.w).den (.compStart (.GeneratorExp elt [⟨tg, iter, ifs, 0⟩] scope pos) 0 (.ref it) .none cenv)) [] s := by
  have loop := gen_seg (iter := iter) (scope := scope) (pos := pos) hc hco T pg pt pe hpn hw turn m (m + 1) 0 s s (Nat.le_refl _) h (Nat.le_refl _)
  obtain ⟨H', I', t', _⟩ := h
  show Seg _ A _ _ _ s _ ((compStart (.GeneratorExp elt [⟨tg, iter, ifs, 0⟩] scope pos) 0 (.ref it) .none cenv).onRaise (leaving cenv)) [] s
  unfold compStart
  rw [Sem.onRaise_eq_wrap]
  show Seg _ A _ _ _ s _ ((ask >>= _).wrap _ _ _ _) [] s
  refine seg_bind_wrap (wpAny_askSetting ?_)
  split
  · exact seg_again rfl loop
  · first
      | exact seg_bind_wrap (wpAny_rule (seg_bind_wrap (wpAny_standAt (seg_bind_wrap (T.self _ 0 s _ _ t' (seg_again rfl loop))))))
      | (refine seg_bind_wrap (wpAny_rule ?_); show Seg _ A _ _ _ s _ ((standAt iter.pos >>= _).wrap _ _ _ _) [] s; exact seg_bind_wrap (wpAny_standAt (seg_bind_wrap (T.self _ 0 s _ _ t' (seg_again rfl loop)))))
end

/-! ### the consumer -/
section
variable {X XG : Cx} {A : Around} {fp : List Addr} {tn : Nat → Heap → Prop} {σw : L2.St} {W : Nat → Nat → Hp → Prop} {Q : VK} {stop : Bool} {Rr : Result → Shared → Prop} {P : Program} {w : World}
theorem FB.gens {b : Bool} {s s' : Shared} (h : FB XG Q b s) (e : s'.heap = s.heap) (os : s'.os = s.os) (bb : AllBare s'.gens) : FB XG Q b s' := by
  obtain ⟨p, σ, H, I, q⟩ := h
  exact ⟨p, σ, H, inv_gens I e os bb, q⟩
theorem FB.bare {b : Bool} {s : Shared} (h : FB XG Q b s) : AllBare s.gens := by
  obtain ⟨p, σ, H, I, q⟩ := h
  exact I.bare
theorem FB.kept {b : Bool} {s : Shared} {h' : Heap} (h : FB XG Q b s) (k : ∀ b o, s.heap.get? b = some o → h'.get? b = some o) : FB XG Q b { s with heap := h' } := by
  obtain ⟨p, σ, H, I, q⟩ := h
  exact ⟨p, σ, H, I.un (t' := s.toks) (Un.kept k) (I.hok.kept k), q⟩
theorem GI.bare {i m : Nat} {s : Shared} (h : GI XG fp tn σw W i m s) : AllBare s.gens := by
  obtain ⟨H, I, q⟩ := h
  exact I.bare
theorem GI.gens {i m : Nat} {s s' : Shared} (h : GI XG fp tn σw W i m s) (e : s'.heap = s.heap) (os : s'.os = s.os) (bb : AllBare s'.gens) : GI XG fp tn σw W i m s' := by
  obtain ⟨H, I, t, n, q⟩ := h
  exact ⟨H, inv_gens I e os bb, by rw [e]; exact t, n, q⟩
/-- it stands before its next item -/
def Stands (P : Program) (w : World) (XG : Cx) (fp : List Addr) (tn : Nat → Heap → Prop) (σw : L2.St) (W : Nat → Nat → Hp → Prop) (Q : VK) (stop : Bool) (A : Around) (a : Addr) (g n : Nat) (s : Shared) : Prop :=
  (∃ i m, GI XG fp tn σw W i m s) ∧ ∃ gs, s.gens[g]? = some gs ∧ ∀ s'', Lk s s'' → gs.Goes (model P w) A (fun n s₀ r s₁ => r = .ok .next ∧ genP XG Q stop n s₀ s₁) (genY XG fp tn σw W Q stop) n (.send .none) s''
theorem stands_next {a : Addr} {g n : Nat} {s : Shared} {Qn : Option Value → Shared → Prop} {E : Value → Shared → Prop} (hh : A.handled = none) (hd : A.depth < recursionLimit) (hgen : ∀ s', (∃ pins' σ' H', Inv XG pins' σ' H' s') → s'.heap.IsGen a g) (h : Stands P w XG fp tn σw W Q stop A.in1 a g n s)
    (hdone : ∀ s', FB XG Q (!stop) s' → Qn none s') (hstop : ∀ s', FB XG Q stop s' → Qn (some (.bool stop)) s') (hgo : ∀ m s', n = m + 1 → Stands P w XG fp tn σw W Q stop A.in1 a g m s' → Qn (some (.bool (!stop))) s') :
    wpAny (model P w) A (pyNext (.ref a)) Qn E s := by
  obtain ⟨⟨i, m, gi⟩, gs, hgs, hgo'⟩ := h
  obtain ⟨H, I, st, nf, w⟩ := id gi
  have hgl : g < s.gens.size := (Array.getElem?_eq_some_iff.mp hgs).1
  refine wpAny_pyNext_genexpQ (P := genP XG Q stop) hh I.nolimit hd (hgen s ⟨_, _, _, I⟩) hgs (hgo' _ ⟨rfl, rfl, allBare_setGen I.bare rfl⟩) (fun v s₁ gs' hb hv => ?_) fun s₁ hp h' hk => ?_
  · obtain ⟨c, rfl, hsz, hc⟩ := hv
    have hsz : (s.setGen g .running).gens.size ≤ s₁.gens.size := hsz
    rw [setGen_size] at hsz
    have hg1 : g < s₁.gens.size := Nat.lt_of_lt_of_le hgl hsz
    by_cases e : c = stop
    · rw [if_pos e] at hc
      rw [e]
      exact hstop _ (hc.gens rfl rfl (allBare_setGen hc.bare hb))
    · rw [if_neg e] at hc
      obtain ⟨⟨i', m', gi'⟩, kap⟩ := hc
      have ec : c = !stop := by cases c <;> cases stop <;> simp_all
      rw [ec]
      cases n with
      | zero => exact (kap s₁ ⟨rfl, rfl, gi'.bare⟩).elim
      | succ n => exact hgo n _ rfl ⟨⟨i', m', gi'.gens rfl rfl (allBare_setGen gi'.bare hb)⟩, gs', setGen_at hg1, fun s'' lk => kap s'' ⟨lk.1, lk.2.1, lk.2.2⟩⟩
  · obtain ⟨fb, _⟩ := hp
    exact hdone _ (FB.kept (s := s₁.setGen g .finished) (fb.gens rfl rfl (allBare_setGen fb.bare rfl)) hk)
theorem any_loopG {a : Addr} {g : Nat} (hh : A.handled = none) (hd : A.depth < recursionLimit) (hgen : ∀ s', (∃ pins' σ' H', Inv XG pins' σ' H' s') → s'.heap.IsGen a g) (hR : ∀ b s', FB XG Q b s' → Rr (.ok (.ret (.bool b))) s') :
    ∀ (n : Nat) (s : Shared), Stands P w XG fp tn σw W Q true A.in1.in1 a g n s → codeAny (model P w) A (.builtin "any.loop" ⟨[.ref a], []⟩) Rr s := by
  intro n
  induction n using Nat.strongRecOn with
  | _ n ih =>
  intro s h
  refine codeAny_builtin F.entry_any_loop ?_
  rw [Around.under_plainId F.plain_any_loop _]
  show wpAny _ A.in1 (pyNext (.ref a) >>= _) _ _ s
  refine wpAny_bind (stands_next (A := A.in1) hh hd hgen h (fun s' fb => ?_) (fun s' fb => ?_) fun m s' hm hs' => ?_)
  · exact wpAny_bind (wpAny_rule (wpAny_pure (hR _ _ fb)))
  · refine wpAny_bind (wpAny_holding (wpAny_truthy_bool ?_))
    refine wpAny_bind (wpAny_letGo ?_)
    simp only [if_true]
    exact wpAny_bind (wpAny_rule (wpAny_pure (hR _ _ fb)))
  · refine wpAny_bind (wpAny_holding (wpAny_truthy_bool ?_))
    refine wpAny_bind (wpAny_letGo ?_)
    simp only [Bool.not_true, Bool.false_eq_true, if_false]
    exact wpAny_pure ⟨plainId_quiet F.plain_any_loop _, ih m (by omega) s' hs'⟩
theorem all_loopG {a : Addr} {g : Nat} (hh : A.handled = none) (hd : A.depth < recursionLimit) (hgen : ∀ s', (∃ pins' σ' H', Inv XG pins' σ' H' s') → s'.heap.IsGen a g) (hR : ∀ b s', FB XG Q b s' → Rr (.ok (.ret (.bool b))) s') :
    ∀ (n : Nat) (s : Shared), Stands P w XG fp tn σw W Q false A.in1.in1 a g n s → codeAny (model P w) A (.builtin "all.loop" ⟨[.ref a], []⟩) Rr s := by
  intro n
  induction n using Nat.strongRecOn with
  | _ n ih =>
  intro s h
  refine codeAny_builtin F.entry_all_loop ?_
  rw [Around.under_plainId F.plain_all_loop _]
  show wpAny _ A.in1 (pyNext (.ref a) >>= _) _ _ s
  refine wpAny_bind (stands_next (A := A.in1) hh hd hgen h (fun s' fb => ?_) (fun s' fb => ?_) fun m s' hm hs' => ?_)
  · exact wpAny_bind (wpAny_rule (wpAny_pure (hR _ _ fb)))
  · refine wpAny_bind (wpAny_holding (wpAny_truthy_bool ?_))
    refine wpAny_bind (wpAny_letGo ?_)
    simp only [Bool.false_eq_true, if_false]
    exact wpAny_bind (wpAny_rule (wpAny_pure (hR _ _ fb)))
  · refine wpAny_bind (wpAny_holding (wpAny_truthy_bool ?_))
    refine wpAny_bind (wpAny_letGo ?_)
    simp only [Bool.not_false, if_true]
    exact wpAny_pure ⟨plainId_quiet F.plain_all_loop _, ih m (by omega) s' hs'⟩
end

/-! ### the expression -/
/-- the table at P has grown; the rest stands -/
def TabbedC (P : Addr) (H H' : Hp) : Prop := TabC H' P ∧ ∀ b, b ≠ P → H b ≠ none → H' b = H b
theorem tabbed_hit {P : Addr} {H : Hp} (t : TabC H P) : TabbedC P H H := ⟨t, fun _ _ _ => rfl⟩
/-- one more code object, at c, in the table at P -/
theorem tabbed_new {P c : Addr} {H : Hp} {q : Str} {ps : Array Value} {pos : Pos} (hP : H P = some (.tbl ps)) (ht : TriplesOk ps.toList) (hk : ∀ (pos : Pos) (cv : Value), codeAmong pos ps.toList = some cv → ∃ c q, cv = .ref c ∧ H c = some (LamX.CodeO c q)) (n : H c = none) :
    TabbedC P H (upd (upd H P (.tbl (ps ++ #[rawInt pos.line, rawInt pos.col, .ref c]))) c (LamX.CodeO c q)) := by
  have nP : P ≠ c := ne_of_none hP n
  have eL : (ps ++ #[rawInt pos.line, rawInt pos.col, Value.ref c]).toList = ps.toList ++ [rawInt pos.line, rawInt pos.col, .ref c] := by simp
  refine ⟨⟨_, by rw [upd_ne nP, upd_same], by rw [eL]; exact PySem.TriplesOk_snoc _ _ _ _ ht, fun p cv h => ?_⟩, fun b h1 h2 => ?_⟩
  · rw [eL] at h
    rcases LamX.among_app _ ht h with z | z
    · obtain ⟨c0, q0, e1, e2⟩ := hk p cv z
      have m1 : c0 ≠ c := ne_of_none e2 n
      have m2 : c0 ≠ P := fun z => codeO_tbl (c := c0) (q := q0) ps (Option.some.inj (e2.symm.trans (by rw [z]; exact hP)))
      exact ⟨c0, q0, e1, by rw [upd_ne m1, upd_ne m2]; exact e2⟩
    · exact ⟨c, q, z, upd_same⟩
  · have m : b ≠ c := fun z => h2 (by rw [z]; exact n)
    rw [upd_ne m, upd_ne h1]
/-- any, all (stop: what ends the walk) of elt for tg in iter if ..; behind it the def's table P may have grown -/
def tAnyG (stop : Bool) (P : Addr) (wi : TI) (g : TG) (tt : TT) (te : TE) (vs : List Nat) : TE := fun σ H Q => wi σ H fun J H1 => TabC H1 P ∧ ∀ H2, TabbedC P H1 H2 → ∃ W : Nat → Nat → Hp → Prop, (∃ m, W 0 m H2) ∧ GTurn J g tt te vs (L2.wipe σ vs) W Q stop
section
variable {X : Cx} {pins : List (Addr × Obj)} {σ : L2.St} {H : Hp} {s : Shared} {c P : Addr} {tg iter elt : Expr} {ifs : List Expr} {scope : Scope} {own : List (Str × Nat)} {p pos gpos : Pos} {wi : TI} {g : TG} {tt : TT} {te : TE} {Q : VK} {stop : Bool} {k : Nat}
theorem gen_any {Q' : Value → Shared → Prop} (hr : Room (k + 3) X.A) (TB : GxR.TabB X.base X.mg c P) (hcode : X.env.code = .ref c) (hc : X.calm = true) (hN : X.N.Nodup) (ok : BlkOk X.N X.env.scope scope own) (nc : ∀ y ∈ scope.names, y.2 ≠ .cell)
    (dot : scope.names.lookup (".0" : Str) = some NameKind.local) (hco : scope.isCoroutine = false) (hi : PI X tg iter wi)
    (hg : ∀ (A : Around) (s : Shared) (H : Hp) (C : Addr) (code : Value) (fp : List Addr) (pn : List (Addr × Obj)), Room k (A.deeper (genE X scope C code)) → PG (GX X A s H (genE X scope C code) fp pn) tg g)
    (ht : ∀ (A : Around) (s : Shared) (H : Hp) (C : Addr) (code : Value) (fp : List Addr) (pn : List (Addr × Obj)), Room k (A.deeper (genE X scope C code)) → PTs (GX X A s H (genE X scope C code) fp pn) ifs tt)
    (he : ∀ (A : Around) (s : Shared) (H : Hp) (C : Addr) (code : Value) (fp : List Addr) (pn : List (Addr × Obj)), Room k (A.deeper (genE X scope C code)) → PE (GX X A s H (genE X scope C code) fp pn) elt te)
    (hs : ∀ v, genFold iter X.env v = pure v) (I : Inv X pins σ H s) (h : tAnyG stop P wi g tt te (own.map (·.2)) σ H Q)
    (hQ : ∀ (XG : Cx) (fp : List Addr) (tn : Nat → Heap → Prop) (W : Nat → Nat → Hp → Prop) (a : Addr) (gi n : Nat) (s5 : Shared), (∀ s', (∃ pins' σ' H', Inv XG pins' σ' H' s') → s'.heap.IsGen a gi) → s5.heap.IsGen a gi →
      (∀ b s', FB XG Q b s' → ∃ H', Inv X pins σ H' s' ∧ Q (.bl b) H') → Stands X.prog X.w XG fp tn (L2.wipe σ (own.map (·.2))) W Q stop X.A.in1.in1 a gi n s5 → Q' (.ref a) s5) :
    wpAny (model X.prog X.w) X.A (eval (.GeneratorExp elt [⟨tg, iter, ifs, 0⟩] scope gpos) X.env) Q' X.xe s := by
  have hfree : ∀ y ∈ scope.names, y.2 = .free → ∃ c, X.env.cells.lookup y.1 = some c := fun y hy e => by
    rcases ok.free y hy e with k | k
    · exact I.ok.has _ (.inl k)
    · exact I.ok.has _ (.inr k)
  refine wpAny_GeneratorExp_make hco (closure_ok hfree) nc dot ok.kind (by have := hr.dp; omega) ?_ hs
  refine thn (hi.run pins s σ H _ I h) fun xv s1 hx => thn hx fun itv s2 h2 => ?_
  obtain ⟨it, fp, tn, J, H1, e, I1, T, st2, f2, ⟨ps, hP, htr, hkn⟩, q⟩ := h2
  subst e
  refine ⟨I1.nolimit, ?_⟩
  have hPs : s2.heap.get? P = some { cls := .none, data := .fields ps } := I1.hok P _ hP
  have cd : PySem.W.CodeHd s2.heap c P := TB.code.keeps I1.bk
  have sz : ∀ b ∈ fp, b < s2.heap.objs.size := fun b hb => by
    obtain ⟨o, e, _⟩ := T.obj _ _ st2 b hb
    exact Heap.lt_size e
  have nP : ∀ b ∈ fp, b ≠ P := fun b hb e => by
    have := (f2 b hb).1
    rw [e, hP] at this; cases this
  have cont : ∀ (code : Value) (h3 : Heap) (tk : Nat) (H4 : Hp), Heap.ExtBut P s2.heap h3 → s2.heap.objs.size ≤ h3.objs.size → Inv X pins σ H4 { s2 with heap := h3, toks := tk } → TabbedC P H1 H4 → (∀ b ∈ fp, H4 b = none) →
      wpAny (model X.prog X.w) X.A (builtinsFor X.env.globals X.env.builtins) (fun bi s₄ =>
        ∀ h', h'.Ns s₄.heap.objs.size (fun y => if y = ".0" then some (.ref it) else none) → Heap.SameBut s₄.heap.objs.size (s₄.heap.push { cls := .type "frame", data := .dict #[] }) h' →
          Q' (.ref h'.objs.size) { s₄ with
            gens := s₄.gens.push (.fresh (.compStart (.GeneratorExp elt [⟨tg, iter, ifs, 0⟩] scope gpos) 0 (.ref it) .none (genEnv scope (cloFrom X.env.cells scope.names []) s₄.heap.objs.size code bi X.env))),
            toks := s₄.toks + 1 + 1 + 1,
            heap := h'.push { cls := .type "generator", data := .fields #[.int s₄.gens.size 0, .str "<genexpr>" (s₄.toks + 1), .str (X.env.qual ++ "<genexpr>") (s₄.toks + 1 + 1)] } }) X.xe { s2 with heap := h3, toks := tk } := by
    intro code h3 tk H4 hx hsz I4 hTb nH4
    obtain ⟨bm, ob, e1, e2, e3, e4, e5, e6, e7, e8⟩ := TB.bm
    have keep3 : ∀ b u, b ≠ P → s2.heap.get? b = some u → h3.get? b = some u := fun b u hb e => hx b u hb e
    refine wpAny_builtinsFor (m := X.mg) (by rw [I1.ok.glob]; exact (I1.mod.glob.keeps I1.bk).extBut hx TB.gP) e1 e2 (keep3 _ _ e4 (I1.bk _ _ e5)) e6 e7 e8 ?_
    intro h' hn' hs'
    generalize hs4 : ({ s2 with heap := h3, toks := tk } : Shared) = s4 at I4
    have e4h : s4.heap = h3 := by rw [← hs4]
    have e4g : s4.gens = s2.gens := by rw [← hs4]
    obtain ⟨W, ⟨m0, w0⟩, turn⟩ := q _ hTb
    have f4 : ∀ b ∈ fp, FpOk X pins H4 b ∧ b < s4.heap.objs.size := fun b hb => ⟨⟨nH4 b hb, (f2 b hb).2⟩, by rw [e4h]; exact Nat.lt_of_lt_of_le (sz b hb) hsz⟩
    have hszp : h'.objs.size = h3.objs.size + 1 := by rw [hs'.1, Heap.size_push]
    have keep' : ∀ b o, h3.get? b = some o → h'.get? b = some o := fun b o e => hs'.extBut b o (Nat.ne_of_lt (Heap.lt_size e)) (Heap.get?_push_of_some _ e)
    generalize hs5 : ({ s2 with
            gens := s2.gens.push (.fresh (.compStart (.GeneratorExp elt [⟨tg, iter, ifs, 0⟩] scope gpos) 0 (.ref it) .none (genEnv scope (cloFrom X.env.cells scope.names []) h3.objs.size code builtinsNs X.env))),
            toks := tk + 1 + 1 + 1,
            heap := h'.push { cls := .type "generator", data := .fields #[.int s2.gens.size 0, .str "<genexpr>" (tk + 1), .str (X.env.qual ++ "<genexpr>") (tk + 1 + 1)] } } : Shared) = s5
    have ha5 : s5.heap.get? h'.objs.size = some { cls := .type "generator", data := .fields #[.int s2.gens.size 0, .str "<genexpr>" (tk + 1), .str (X.env.qual ++ "<genexpr>") (tk + 1 + 1)] } := by
      rw [← hs5]; exact Heap.get?_push_size _ rfl
    have k5 : ∀ b o, s4.heap.get? b = some o → s5.heap.get? b = some o := fun b o e => by
      rw [e4h] at e
      rw [← hs5]
      exact Heap.get?_push_of_some _ (keep' b o e)
    have b5 : AllBare s5.gens := by
      rw [← hs5]
      exact AllBare.push I1.bare rfl
    have hgs5 : s5.gens[s2.gens.size]? = some (.fresh (.compStart (.GeneratorExp elt [⟨tg, iter, ifs, 0⟩] scope gpos) 0 (.ref it) .none (genE X scope h3.objs.size code))) := by
      rw [← hs5]; exact Array.getElem?_push_size ..
    have I5 := gen_start (s5 := s5) (A := X.A.in1.in1) (code := code) I4 ok nc hN f4 hr.hd I1.ok.frames (by rw [e4h, ← hs5]; exact hn'.push _) k5 (by rw [← hs5, ← hs4]) b5 ha5 (by rw [e4h]; omega) (fun v z => by cases z)
    rw [e4h] at I5
    have hRm : Room k (X.A.in1.in1.deeper (genE X scope h3.objs.size code)) := ⟨hr.hd, by have := hr.dp; show X.A.depth + 1 + 3 * k + 5 < _; omega, by have := hr.un; show X.A.units + 1 + 1 + 3 + 16 * k + 200 < _; omega⟩
    have g5 : GI (GX X X.A.in1.in1 s4 H4 (genE X scope h3.objs.size code) fp [(h'.objs.size, { cls := .type "generator", data := .fields #[.int s2.gens.size 0, .str "<genexpr>" (tk + 1), .str (X.env.qual ++ "<genexpr>") (tk + 1 + 1)] })]) fp tn (L2.wipe σ (own.map (·.2))) W 0 m0 s5 :=
      ⟨H4, I5, T.keep _ _ _ st2 fun b hb o e => k5 b o (by rw [e4h]; exact keep3 b o (nP b hb) e), nH4, w0⟩
    subst hs5
    subst hs4
    refine hQ _ fp tn W h'.objs.size s2.gens.size (m0 + 1) _ (fun s' hI => ?_) ⟨_, _, _, ha5, rfl, rfl, rfl⟩ (fun b s' hF => ?_) ⟨⟨0, m0, g5⟩, _, hgs5, fun s'' lk => ⟨rfl, ?_⟩⟩
    · obtain ⟨_, _, _, I'⟩ := hI
      exact ⟨_, _, _, (I'.pin _ (List.mem_append_left _ List.mem_cons_self)).1, rfl, rfl, rfl⟩
    · obtain ⟨pins', σ', H', I', q'⟩ := hF
      exact ⟨H', I4.call' (ch := fp) I'.os I'.base I'.hok I'.bare fun b hb => ⟨(f4 b hb).1.2.2.2.1, (f4 b hb).1.2.1, (f4 b hb).1.2.2.2.2.1, (f4 b hb).1.2.2.2.2.2⟩, q'⟩
    · refine gen_begin hc hco T (hg _ _ _ _ _ _ _ hRm) (ht _ _ _ _ _ _ _ hRm) (he _ _ _ _ _ _ _ hRm) (fun b hb p hp => ?_) (fun i v e => (wipe_some e).2) turn (g5.gens lk.1 lk.2.1 lk.2.2)
      cases List.mem_singleton.mp hp
      exact Nat.ne_of_gt (by show b < h'.objs.size; rw [hszp]; exact Nat.lt_succ_of_lt (Nat.lt_of_lt_of_le (sz b hb) hsz))
  cases hf : codeAmong gpos ps.toList with
  | none =>
    refine wpAny_genexprCodeX hcode (cd.code hPs htr) (cd.tab hPs) hf fun c' h' tk hx hge hlt hco' hrc htab' _ => ?_
    have nC : H1 c' = none := I1.hok.fresh hge
    obtain ⟨c2, oc, vs, t, e2, hoc, hd, hv⟩ := hrc
    cases e2
    have I4 := LamX.inv_table (t' := tk) I1 hP (fun b o hb e => hx b o hb e) htab'.2 hge ⟨oc, vs, t, hoc, hd, hv⟩
    refine cont _ h' tk _ hx (Nat.le_trans hge (Nat.le_of_lt hlt)) I4 (tabbed_new hP htr hkn nC) fun b hb => ?_
    have lb := sz b hb
    rw [upd_ne (Nat.ne_of_lt (Nat.lt_of_lt_of_le lb hge)), upd_ne (nP b hb)]
    exact (f2 b hb).1
  | some cv =>
    refine wpAny_genexprCode_hit hcode (cd.code hPs htr) hf ?_
    exact cont cv s2.heap s2.toks H1 (Heap.ExtBut.refl _ _) (Nat.le_refl _) I1 (tabbed_hit ⟨ps, hP, htr, hkn⟩) fun b hb => (f2 b hb).1
theorem pe_anyG (hr : Room (k + 3) X.A) (hgl : Gl X "any") (hm : X.mg "any" = none) (TB : GxR.TabB X.base X.mg c P) (hcode : X.env.code = .ref c) (hc : X.calm = true) (hN : X.N.Nodup) (ok : BlkOk X.N X.env.scope scope own) (nc : ∀ y ∈ scope.names, y.2 ≠ .cell)
    (dot : scope.names.lookup (".0" : Str) = some NameKind.local) (hco : scope.isCoroutine = false) (hi : PI X tg iter wi)
    (hg : ∀ (A : Around) (s : Shared) (H : Hp) (C : Addr) (code : Value) (fp : List Addr) (pn : List (Addr × Obj)), Room k (A.deeper (genE X scope C code)) → PG (GX X A s H (genE X scope C code) fp pn) tg g)
    (ht : ∀ (A : Around) (s : Shared) (H : Hp) (C : Addr) (code : Value) (fp : List Addr) (pn : List (Addr × Obj)), Room k (A.deeper (genE X scope C code)) → PTs (GX X A s H (genE X scope C code) fp pn) ifs tt)
    (he : ∀ (A : Around) (s : Shared) (H : Hp) (C : Addr) (code : Value) (fp : List Addr) (pn : List (Addr × Obj)), Room k (A.deeper (genE X scope C code)) → PE (GX X A s H (genE X scope C code) fp pn) elt te)
    (hs : ∀ v, genFold iter X.env v = pure v)
    (hst : starEach [.GeneratorExp elt [⟨tg, iter, ifs, 0⟩] scope gpos] X.env = (false, eval (.GeneratorExp elt [⟨tg, iter, ifs, 0⟩] scope gpos) X.env) :: starEach [] X.env := by rfl) :
    PE X (.Call (.Name "any" p) [.GeneratorExp elt [⟨tg, iter, ifs, 0⟩] scope gpos] [] pos) (tAnyG true P wi g tt te (own.map (·.2))) := by
  refine ⟨fun pins s σ H Q I h => ?_⟩
  refine wpAny_Call_Name_kw (ld_blt I hgl hm boot_any ?_)
  refine PyProof.Rows.callWith_builtin1 ?_ hst (by rfl)
  rw [hst]
  show wpAny _ _ (spliced ((false, eval (.GeneratorExp elt [⟨tg, iter, ifs, 0⟩] scope gpos) X.env) :: backTo pos (starEach [] X.env))) _ _ s
  refine Calls.spliced_cons (gen_any hr TB hcode hc hN ok nc dot hco hi hg ht he hs I h fun XG fp tn W a gi n s5 hgen hg5 back st => ?_)
  refine Calls.spliced_nil ?_
  refine call_function_tree F.kind_any F.plain_any F.entry_any (F.args_any1 _) ?_
  unfold Builtin.«any»
  refine wpAny_bind (m := oneArg "any" _) (wpAny_pure ?_)
  refine wpAny_bind (wpAny_pyIter_gen hg5 ?_)
  refine wpAny_pure ⟨plainId_quiet F.plain_any_loop _, any_loopG (A := X.A) hr.hd (by have := hr.dp; omega) hgen (fun b s' hF => ?_) n s5 st⟩
  obtain ⟨H', I', q⟩ := back b s' hF
  exact ⟨.bl b, H', I', rfl, q⟩
theorem pe_allG (hr : Room (k + 3) X.A) (hgl : Gl X "all") (hm : X.mg "all" = none) (hb : bootBuiltins "all" = some (.builtin "all")) (TB : GxR.TabB X.base X.mg c P) (hcode : X.env.code = .ref c) (hc : X.calm = true) (hN : X.N.Nodup) (ok : BlkOk X.N X.env.scope scope own) (nc : ∀ y ∈ scope.names, y.2 ≠ .cell)
    (dot : scope.names.lookup (".0" : Str) = some NameKind.local) (hco : scope.isCoroutine = false) (hi : PI X tg iter wi)
    (hg : ∀ (A : Around) (s : Shared) (H : Hp) (C : Addr) (code : Value) (fp : List Addr) (pn : List (Addr × Obj)), Room k (A.deeper (genE X scope C code)) → PG (GX X A s H (genE X scope C code) fp pn) tg g)
    (ht : ∀ (A : Around) (s : Shared) (H : Hp) (C : Addr) (code : Value) (fp : List Addr) (pn : List (Addr × Obj)), Room k (A.deeper (genE X scope C code)) → PTs (GX X A s H (genE X scope C code) fp pn) ifs tt)
    (he : ∀ (A : Around) (s : Shared) (H : Hp) (C : Addr) (code : Value) (fp : List Addr) (pn : List (Addr × Obj)), Room k (A.deeper (genE X scope C code)) → PE (GX X A s H (genE X scope C code) fp pn) elt te)
    (hs : ∀ v, genFold iter X.env v = pure v)
    (hst : starEach [.GeneratorExp elt [⟨tg, iter, ifs, 0⟩] scope gpos] X.env = (false, eval (.GeneratorExp elt [⟨tg, iter, ifs, 0⟩] scope gpos) X.env) :: starEach [] X.env := by rfl) :
    PE X (.Call (.Name "all" p) [.GeneratorExp elt [⟨tg, iter, ifs, 0⟩] scope gpos] [] pos) (tAnyG false P wi g tt te (own.map (·.2))) := by
  refine ⟨fun pins s σ H Q I h => ?_⟩
  refine wpAny_Call_Name_kw (ld_blt I hgl hm hb ?_)
  refine PyProof.Rows.callWith_builtin1 ?_ hst (by rfl)
  rw [hst]
  show wpAny _ _ (spliced ((false, eval (.GeneratorExp elt [⟨tg, iter, ifs, 0⟩] scope gpos) X.env) :: backTo pos (starEach [] X.env))) _ _ s
  refine Calls.spliced_cons (gen_any hr TB hcode hc hN ok nc dot hco hi hg ht he hs I h fun XG fp tn W a gi n s5 hgen hg5 back st => ?_)
  refine Calls.spliced_nil ?_
  refine call_function_tree F.kind_all F.plain_all F.entry_all (F.args_all1 _) ?_
  unfold Builtin.«all»
  refine wpAny_bind (m := oneArg "all" _) (wpAny_pure ?_)
  refine wpAny_bind (wpAny_pyIter_gen hg5 ?_)
  refine wpAny_pure ⟨plainId_quiet F.plain_all_loop _, all_loopG (A := X.A) hr.hd (by have := hr.dp; omega) hgen (fun b s' hF => ?_) n s5 st⟩
  obtain ⟨H', I', q⟩ := back b s' hF
  exact ⟨.bl b, H', I', rfl, q⟩
end
end PD

set_option Elab.async false
set_option linter.all false
set_option maxRecDepth 100000
set_option maxHeartbeats 1000000
namespace PD
open PySem PySem.Spec PyProof.Rows L2

def anyGo (stop : Bool) (t : Tg) (ft : DnB) (fe : Dn) (ρ : Rho) : List PyData → R Bool
  | [] => .ok (!stop)
  | d :: ds => match t.set d ρ with
    | some ρ1 => nx (ft ρ1) fun b => if b = true then nx (fe ρ1) fun y => match y with
        | .bool c => if c = stop then .ok stop else anyGo stop t ft fe ρ ds
        | _ => .bad
      else anyGo stop t ft fe ρ ds
    | none => .bad
def dAnyG (stop : Bool) (fi : DnL) (t : Tg) (ft : DnB) (fe : Dn) (vs : List Nat) : Dn := fun ρ => fi ρ >>= fun ds => nx (anyGo stop t ft fe (wipeR ρ vs) ds) fun b => .ok (.bool b)
theorem Ext.tabbed {P : Addr} {H H' : Hp} (t : TabC H P) (h : TabbedC P H H') : Ext H H' where
  keep := fun b o e n => by
    have hb : b ≠ P := fun z => by
      obtain ⟨ps, q, _⟩ := t
      rw [z, q] at e
      exact n ps (Option.some.inj e).symm
    rw [h.2 b hb (by rw [e]; simp)]; exact e
  tab := fun b q => by
    by_cases hb : b = P
    · rw [hb]; exact h.1
    · refine q.mono (fun ps e => by rw [h.2 b hb (by rw [e]; simp)]; exact e) fun c n e => ?_
      have hc : c ≠ P := fun z => by
        obtain ⟨ps, g, _⟩ := t
        rw [z, g] at e
        exact codeO_tbl ps (Option.some.inj e).symm
      rw [h.2 c hc (by rw [e]; simp)]; exact e
  al := fun b e => by
    by_cases hb : b = P
    · obtain ⟨ps, q, _⟩ := h.1
      rw [hb, q]; simp
    · rw [h.2 b hb e]; exact e
section
variable {X : Cx} {Tb : List Addr} {W : WX}
theorem any_walk {K : PySem.W.Frag} {stop : Bool} {P : Addr} {t : Tg} {ft : DnB} {fe : Dn} {fi : DnL} {vs : List Nat} {σ : L2.St} {H : Hp} {Q : VK} (hP : P ∈ Tb) (hv : ∀ i ∈ t.ixs, i ∈ vs) (h : tD K Tb W (dAnyG stop fi t ft fe vs) σ H Q) :
    tAnyG stop P (tI K Tb W fi) (tG K Tb t) (tDT K Tb W0 ft) (tD K Tb W0 fe) vs σ H Q := by
  obtain ⟨H0, O0, O, ρ, st, h⟩ := h
  refine ⟨H0, O0, O, ρ, st, Post.then h fun ds J H1 e it k => ?_⟩
  cases q : anyGo stop t ft fe (wipeR ρ vs) ds with
  | exc x => rw [q] at k; exact k.elim
  | bad => rw [q] at k; exact k.elim
  | ok res =>
    rw [q] at k
    have st1 := st.step e
    refine ⟨st1.tab P hP, fun H2 tb => ?_⟩
    have e12 : Ext H1 H2 := Ext.tabbed (st1.tab P hP) tb
    have stw := (st1.step e12).wiped vs
    refine ⟨fun i m H' => i ≤ ds.length ∧ m = ds.length - i ∧ St0 K Tb H0 O0 O H' (L2.wipe σ vs) (wipeR ρ vs) ∧ Ext H1 H' ∧ anyGo stop t ft fe (wipeR ρ vs) (ds.drop i) = .ok res,
      ⟨ds.length, Nat.zero_le _, by simp, stw, e12, q⟩, ?_⟩
    rintro i m H' ⟨hi, rfl, s1, e1, go⟩
    have nO : ∀ b ∈ O, hide O H1 b = none := fun b hb => hide_in hb
    have eG : Ext (hide O H1) H' := Ext.unhide.trans e1
    by_cases hlt : i < ds.length
    · refine .inr ⟨it.go i H' eG hlt, fun H2 => i + 1 ≤ ds.length ∧ St0 K Tb H0 O0 O H2 (L2.wipe σ vs) (wipeR ρ vs) ∧ Ext H1 H2 ∧ anyGo stop t ft fe (wipeR ρ vs) (ds.drop (i + 1)) = .ok res,
        fun H2 q => ⟨ds.length - (i + 1), by omega, q.1, rfl, q.2⟩, fun x H2 y => ?_⟩
      obtain ⟨e2, d, hd, rx⟩ := it.yld i H' O x H2 eG nO s1.al hlt y
      have hdr : ds.drop i = d :: ds.drop (i + 1) := by
        obtain ⟨hl, hd'⟩ := List.getElem?_eq_some_iff.mp hd
        rw [List.drop_eq_getElem_cons hl, hd']
      rw [hdr] at go
      unfold anyGo at go
      cases et : t.set d (wipeR ρ vs) with
      | none => rw [et] at go; cases go
      | some ρ1 =>
        rw [et] at go
        obtain ⟨b, eb, go⟩ := nx_ok go
        have s2 := s1.step e2
        refine ⟨H0, O0, O, wipeR ρ vs, ρ1, d, s2, rx, et, fun σ' st' ag => ⟨(ag.wipe hv).trans wipe_wipe, H0, O0, O, ρ1, st', ?_⟩⟩
        rw [eb]
        intro b' H3 e3 r3
        cases (show b' = b from r3)
        have s3 := st'.step e3
        cases b with
        | false => exact ⟨hlt, s2.step e3, (e1.trans e2).trans e3, go⟩
        | true =>
          obtain ⟨yd, ey1, go⟩ := nx_ok go
          refine ⟨H0, O0, O, ρ1, s3, ?_⟩
          rw [ey1]
          intro y H4 e4 r4
          have e14 := ((e1.trans e2).trans e3).trans e4
          cases yd with
          | bool c =>
            have r4 : Rp K (hide O H4) y (.bool c) := r4
            cases r4
            refine ⟨c, rfl, ?_⟩
            have go : (if c = stop then R.ok stop else anyGo stop t ft fe (wipeR ρ vs) (ds.drop (i + 1))) = .ok res := go
            by_cases hc : c = stop
            · rw [if_pos hc] at go ⊢
              cases go
              exact k (.bl stop) H4 e14 (.bl _)
            · rw [if_neg hc] at go ⊢
              exact ⟨hlt, (s2.step e3).step e4, e14, go⟩
          | none => cases go
          | int _ => cases go
          | str _ => cases go
          | list _ => cases go
          | tuple _ => cases go
          | dict _ => cases go
    · have ei : i = ds.length := by omega
      subst ei
      refine .inl ⟨it.stop H' eG, ?_⟩
      rw [List.drop_length] at go
      cases go
      exact k (.bl _) H' e1 (.bl _)
variable {c P : Addr} {tg iter elt : Expr} {ifs : List Expr} {scope : Scope} {own : List (Str × Nat)} {p pos gpos : Pos} {stop : Bool} {k : Nat} {t : Tg} {ft : DnB} {fe : Dn} {fi : DnL}
/-- the blocks' contexts -/
abbrev GXs (X : Cx) (scope : Scope) (k : Nat) (Pr : Cx → Prop) : Prop := ∀ (A : Around) (s : Shared) (H : Hp) (C : Addr) (code : Value) (fp : List Addr) (pn : List (Addr × Obj)), Room k (A.deeper (genE X scope C code)) → Pr (GX X A s H (genE X scope C code) fp pn)
/-- any(e for t in i if c), all(..) -/
theorem fd_any (hr : Room (k + 3) X.A) (hP : P ∈ Tb) (TB : GxR.TabB X.base X.mg c P) (hcode : X.env.code = .ref c) (hc : X.calm = true) (hN : X.N.Nodup) (ok : BlkOk X.N X.env.scope scope own) (hi : PI X tg iter (tI X.K Tb W fi))
    (hg : GXs X scope k fun Y => PG Y tg (tG Y.K Tb t)) (ht : GXs X scope k fun Y => PTs Y ifs (tDT Y.K Tb W0 ft)) (he : GXs X scope k fun Y => PE Y elt (tD Y.K Tb W0 fe))
    (hgl : Gl X "any") (hm : X.mg "any" = none)
    (nc : ∀ y ∈ scope.names, y.2 ≠ .cell := by decide) (dot : scope.names.lookup (".0" : Str) = some NameKind.local := by decide) (hco : scope.isCoroutine = false := by rfl) (hv : ∀ i ∈ t.ixs, i ∈ own.map (·.2) := by decide) (hs : ∀ v, genFold iter X.env v = pure v := by intro _; rfl)
    (hst : starEach [.GeneratorExp elt [⟨tg, iter, ifs, 0⟩] scope gpos] X.env = (false, eval (.GeneratorExp elt [⟨tg, iter, ifs, 0⟩] scope gpos) X.env) :: starEach [] X.env := by rfl) :
    PE X (.Call (.Name "any" p) [.GeneratorExp elt [⟨tg, iter, ifs, 0⟩] scope gpos] [] pos) (tD X.K Tb W (dAnyG true fi t ft fe (own.map (·.2)))) :=
  (pe_anyG hr hgl hm TB hcode hc hN ok nc dot hco hi hg ht he hs hst).by fun σ H Q h => any_walk hP hv h
theorem fd_all (hr : Room (k + 3) X.A) (hP : P ∈ Tb) (TB : GxR.TabB X.base X.mg c P) (hcode : X.env.code = .ref c) (hc : X.calm = true) (hN : X.N.Nodup) (ok : BlkOk X.N X.env.scope scope own) (hi : PI X tg iter (tI X.K Tb W fi))
    (hg : GXs X scope k fun Y => PG Y tg (tG Y.K Tb t)) (ht : GXs X scope k fun Y => PTs Y ifs (tDT Y.K Tb W0 ft)) (he : GXs X scope k fun Y => PE Y elt (tD Y.K Tb W0 fe))
    (hgl : Gl X "all") (hm : X.mg "all" = none) (hb : bootBuiltins "all" = some (.builtin "all") := by rfl)
    (nc : ∀ y ∈ scope.names, y.2 ≠ .cell := by decide) (dot : scope.names.lookup (".0" : Str) = some NameKind.local := by decide) (hco : scope.isCoroutine = false := by rfl) (hv : ∀ i ∈ t.ixs, i ∈ own.map (·.2) := by decide) (hs : ∀ v, genFold iter X.env v = pure v := by intro _; rfl)
    (hst : starEach [.GeneratorExp elt [⟨tg, iter, ifs, 0⟩] scope gpos] X.env = (false, eval (.GeneratorExp elt [⟨tg, iter, ifs, 0⟩] scope gpos) X.env) :: starEach [] X.env := by rfl) :
    PE X (.Call (.Name "all" p) [.GeneratorExp elt [⟨tg, iter, ifs, 0⟩] scope gpos] [] pos) (tD X.K Tb W (dAnyG false fi t ft fe (own.map (·.2)))) :=
  (pe_allG hr hgl hm hb TB hcode hc hN ok nc dot hco hi hg ht he hs hst).by fun σ H Q h => any_walk hP hv h
end

/-! ### a def whose code object is known -/
structure FunC (K : PySem.W.Frag) (x qual : Str) (st : Stmt) (f : Addr) (fd : FuncData) (c : Addr) : Prop where
  ex : ∃ (oc : Value) (od : Option Addr) (kV doc pm : Value) (an : Option Addr) (ct : Value) (osl : Array (Option Value)),
    fd = PySem.W.fnOf x qual (defArgs st) (defBody st) (defScope st) .none kV doc pm an (.ref c) ct ∧ K.lookup f = some ⟨oc, od, .func fd, osl⟩ ∧ PySem.W.codeIn K (.ref c) qual = true
  kp : PySem.W.keepIn K (.ref f) = true
theorem FunC.fun {K : PySem.W.Frag} {x qual : Str} {st : Stmt} {f : Addr} {fd : FuncData} {c : Addr} (F : FunC K x qual st f fd c) : Fun K x qual st f fd := by
  obtain ⟨⟨oc, od, kV, doc, pm, an, ct, osl, e1, e2, e3⟩, kp⟩ := F
  exact ⟨⟨oc, od, kV, doc, pm, an, _, ct, osl, e1, e2, e3⟩, kp⟩
section
variable {P : Program} {w : World} {K : PySem.W.Frag} {mg : Str → Option Value} {base : Heap} {Tb : List Addr}
theorem fn_okC {x qual : Str} {st : Stmt} {f c : Addr} {fd : FuncData} {N ps : List Str} {k : Nat} {g : Sn} (F : FunC K x qual st f fd c) (S : FnScope N ps (defScope st))
    (hb : ∀ (A : Around) (outer : List Env) (s : Shared) (H : Hp) (E : XK), Room k (A.deeper (envOfC qual (defScope st) s.heap.objs.size f (.ref c))) →
      PSs (cxOf (L2.CX P w) P w K mg base N qual (defScope st) f (.ref c) A outer s H E) (defBody st) (tS K Tb (WE E) g)) :
    FnOk P w K mg base (L2.CX P w) (k + 1) f fd ps (spD K Tb (runD N.length ps.length g)) := by
  obtain ⟨⟨oc, od, kV, doc, pm, an, ct, osl, rfl, lk, hcd⟩, kp⟩ := F
  refine fn_of lk hcd S (fun vs H Q E h => ?_) fun A outer s H vs Q E hr h => ⟨_, hb A outer s H E hr, ?_⟩
  · obtain ⟨O, ds, al, tb, r, h⟩ := h
    unfold runD at h
    split at h
    · rename_i e
      rw [r.length]; exact e
    · exact h.elim
  · obtain ⟨O, ds, al, tb, r, h⟩ := h
    unfold runD at h
    split at h
    · rename_i e
      have st := St0.init (N.length - ds.length) al tb r
      refine ⟨H, O, O, startR N.length ds, ?_, ?_⟩
      · unfold L2.start startR
        rw [r.length]
        exact st
      · cases q : g (startR N.length ds) with
        | nx ρ => rw [q] at h; exact fun O' σ' H' st' => h .non H' st'.ext .non
        | rt d => rw [q] at h; exact fun v H' e' r' => h v H' e' r'
        | exc x ρ => rw [q] at h; exact fun O' σ' H' c d st' ex => h c d H' st'.ext (by
            obtain ⟨h1, h2⟩ := ex
            refine ⟨h1, ?_⟩
            rcases h2 with h2 | ⟨dd, fs, h3, h4, h5, h6⟩
            · exact .inl h2
            · exact .inr ⟨dd, fs, h3, h4, h5, h6.mono (Sub.less st'.sub)⟩)
        | bk ρ => rw [q] at h; exact h.elim
        | ct ρ => rw [q] at h; exact h.elim
        | bad => rw [q] at h; exact h.elim
    · exact h.elim
end
end PD

set_option Elab.async false
set_option linter.all false
set_option maxRecDepth 100000
set_option maxHeartbeats 1000000
namespace PD
open PySem PySem.Spec PyProof.Rows L2

/-! ### methods of own lists -/
def gPopAt (i : Nat) (f : Dn) : Sn := fun ρ => ownAt ρ i fun ds => oR (f ρ) ρ fun d => match d with
  | .int k => match seqIndex? k ds.length with
    | some j => if -(2 ^ 63) ≤ k ∧ k < 2 ^ 63 ∧ j < ds.length then .nx (ρ.set i (some (.own (ds.eraseIdx j)))) else .bad
    | none => .bad
  | _ => .bad
def gPop (i : Nat) : Sn := fun ρ => ownAt ρ i fun ds => if ds = [] then .bad else .nx (ρ.set i (some (.own ds.dropLast)))
def gRev (i : Nat) : Sn := fun ρ => ownAt ρ i fun ds => .nx (ρ.set i (some (.own ds.reverse)))
theorem RpAll.dropLast {K : PySem.W.Frag} {G : Hp} {vs : List V} {ds : List PyData} (h : RpAll K G vs ds) : RpAll K G vs.dropLast ds.dropLast := by
  rw [List.dropLast_eq_take, List.dropLast_eq_take, h.length]
  exact h.take _
theorem RpAll.last {K : PySem.W.Frag} {G : Hp} {vs : List V} {ds : List PyData} (h : RpAll K G vs ds) (n : ds ≠ []) : ∃ y d, vs[vs.length - 1]? = some y ∧ ds[ds.length - 1]? = some d ∧ Rp K G y d := by
  have hl : 0 < ds.length := List.length_pos_iff.mpr n
  obtain ⟨y, h1, h2⟩ := h.get' (i := ds.length - 1) (d := ds[ds.length - 1]) (List.getElem?_eq_getElem _)
  exact ⟨y, _, by rw [h.length]; exact h1, List.getElem?_eq_getElem _, h2⟩
section
variable {X : Cx} {Tb : List Addr} {W : WX} {e : Expr} {es : List Expr} {f : Dn} {gl : DnL} {pos p : Pos} {x : Str}
theorem fs_popAt {i : Nat} {apos npos cpos : Pos} (ho : X.N[i]? = some x) (hv : Vis X.env.scope x) (hd : (x == ("__debug__" : Str)) = false) (hcd : (x == ("__classdict__" : Str)) = false) (ha : PE X e (tD X.K Tb W f))
    (hse : starEach [e] X.env = (false, eval e X.env) :: starEach [] X.env) (hbase : attributeBase (.Name x npos) "pop" X.env (eval (.Name x npos) X.env) = eval (.Name x npos) X.env)
    (hfew : ((backTo cpos (starEach [e] X.env)).all (fun x => !x.1) && (backToKw cpos (keywordEach [] X.env)).all (fun x => x.1.isSome)
      && decide (([e] : List Expr).length + ([] : List Keyword).length + (if ([] : List Keyword).isEmpty then 0 else 1) < 30)) = true)
    (hline : (apos.endLine == cpos.line) = true) (hplain : (backTo cpos (starEach [] X.env)).any (·.1) = false)
    (hs : swapsWith (.Call (.Attribute (.Name x npos) "pop" apos) [e] [] cpos) none pos.line X.env = pure false) :
    PS X (.Expr (.Call (.Attribute (.Name x npos) "pop" apos) [e] [] cpos) pos) (tS X.K Tb W (gPopAt i f)) :=
  (ps_expr (pe_bm PySem.F.plainAttrs_list PySem.F.slot_list_pop PySem.F.type_list_pop mt_popAt (pe_var ho hv hd hcd) (pa_cons ha pa_nil hse) hbase hfew hline hse hplain) hs).by fun D σ H ⟨H0, O0, O, ρ, st, h⟩ => by
    obtain ⟨ds, p, vs, e1, e2, hp, z, r, h⟩ := own_at st h
    refine ⟨.ref p, e2, .inl ⟨rfl, vs, .of hp⟩, H0, O0, O, ρ, st, oR_post st h fun d v H1 ex rv k => ?_⟩
    split at k
    · rename_i kk
      cases rv
      split at k
      · rename_i j hj
        split at k
        · rename_i hl
          obtain ⟨y, hy, _⟩ := r.get' (List.getElem?_eq_getElem hl.2.2)
          refine ⟨p, vs, kk, j, y, rfl, rfl, ex.keep p _ hp (fun _ q => by cases q), hl.1, hl.2.1, by rw [r.length]; exact hj, hy, k O σ _ ((st.step ex).ownSet e1 e2 ?_ ?_)⟩
          · exact Nat.le_trans (List.length_eraseIdx_le _ _) z
          · exact (r.mono (Sub.hide ex.keep)).erase j
        · exact k.elim
      · exact k.elim
    · exact k.elim
theorem fs_pop {i : Nat} {apos npos cpos : Pos} (ho : X.N[i]? = some x) (hv : Vis X.env.scope x) (hd : (x == ("__debug__" : Str)) = false) (hcd : (x == ("__classdict__" : Str)) = false)
    (hbase : attributeBase (.Name x npos) "pop" X.env (eval (.Name x npos) X.env) = eval (.Name x npos) X.env) (hline : (apos.endLine == cpos.line) = true)
    (hs : swapsWith (.Call (.Attribute (.Name x npos) "pop" apos) [] [] cpos) none pos.line X.env = pure false) :
    PS X (.Expr (.Call (.Attribute (.Name x npos) "pop" apos) [] [] cpos) pos) (tS X.K Tb W (gPop i)) :=
  (ps_expr (pe_bm0 PySem.F.plainAttrs_list PySem.F.slot_list_pop PySem.F.type_list_pop mt_pop (pe_var ho hv hd hcd) hbase hline) hs).by fun D σ H ⟨H0, O0, O, ρ, st, h⟩ => by
    obtain ⟨ds, p, vs, e1, e2, hp, z, r, h⟩ := own_at st h
    split at h
    · exact h.elim
    · rename_i n
      obtain ⟨y, d, hy, _, _⟩ := r.last n
      refine ⟨.ref p, e2, .inl ⟨rfl, vs, .of hp⟩, p, vs, y, rfl, rfl, hp, hy, h O σ _ (st.ownSet e1 e2 ?_ r.dropLast)⟩
      rw [List.length_dropLast]; omega
theorem fs_rev {i : Nat} {apos npos cpos : Pos} (ho : X.N[i]? = some x) (hv : Vis X.env.scope x) (hd : (x == ("__debug__" : Str)) = false) (hcd : (x == ("__classdict__" : Str)) = false)
    (hbase : attributeBase (.Name x npos) "reverse" X.env (eval (.Name x npos) X.env) = eval (.Name x npos) X.env) (hline : (apos.endLine == cpos.line) = true)
    (hs : swapsWith (.Call (.Attribute (.Name x npos) "reverse" apos) [] [] cpos) none pos.line X.env = pure false) :
    PS X (.Expr (.Call (.Attribute (.Name x npos) "reverse" apos) [] [] cpos) pos) (tS X.K Tb W (gRev i)) :=
  (ps_expr (pe_bm0 PySem.F.plainAttrs_list PySem.F.slot_list_reverse PySem.F.type_list_reverse mt_reverse (pe_var ho hv hd hcd) hbase hline) hs).by fun D σ H ⟨H0, O0, O, ρ, st, h⟩ => by
    obtain ⟨ds, p, vs, e1, e2, hp, z, r, h⟩ := own_at st h
    refine ⟨.ref p, e2, .inl ⟨rfl, vs, .of hp⟩, p, vs, rfl, rfl, hp, h O σ _ (st.ownSet e1 e2 ?_ r.reverse)⟩
    rw [List.length_reverse]; exact z
end

/-! ### list(range(..)), tuple(range(..)) -/
def lstRg (lo hi : Int) : List PyData := (List.range (hi - lo).toNat).map fun i => .int (lo + (i : Nat))
def rgOk (a b : Int) : Bool := decide (-(2 ^ 62) ≤ a ∧ a < 2 ^ 62 ∧ -(2 ^ 62) ≤ b ∧ b < 2 ^ 62 ∧ (b - a).toNat ≤ 2 ^ 24)
def bLstR1 : PyData → R PyData
  | .int n => if rgOk 0 n = true then .ok (.list (lstRg 0 n)) else .bad
  | _ => .bad
def bLstR2 : PyData → PyData → R PyData
  | .int a, .int b => if rgOk a b = true then .ok (.list (lstRg a b)) else .bad
  | _, _ => .bad
theorem rgOk_ok {a b : Int} (h : rgOk a b = true) : RgOk a b := by
  have h := of_decide_eq_true (p := -(2 ^ 62) ≤ a ∧ a < 2 ^ 62 ∧ -(2 ^ 62) ≤ b ∧ b < 2 ^ 62 ∧ (b - a).toNat ≤ 2 ^ 24) h
  exact h
theorem rp_rg {K : PySem.W.Frag} {G : Hp} (a b : Int) : RpAll K G (rgV a b) (lstRg a b) := by
  unfold rgV lstRg
  induction List.range (b - a).toNat with
  | nil => exact .nil
  | cons i r ih => exact .cons (.int _) ih
theorem lstRg_len (a b : Int) (h : rgOk a b = true) : (lstRg a b).length ≤ sizeLine := by
  unfold lstRg
  rw [List.length_map, List.length_range, sizeLine_eq]
  have := of_decide_eq_true h
  omega
section
variable {X : Cx} {Tb : List Addr} {W : WX} {a b : Expr} {f g : Dn} {pos p p2 pos2 : Pos}
theorem fd_lstR1 (hc : X.calm = true) (hl : Gl X "list") (ml : X.mg "list" = none) (hr : Gl X "range") (mr : X.mg "range" = none) (ha : PE X a (tD X.K Tb W f))
    (n1 : starEach [a] X.env = (false, eval a X.env) :: starEach [] X.env := by rfl) (n2 : starEach [.Call (.Name "range" p2) [a] [] pos2] X.env = (false, eval (.Call (.Name "range" p2) [a] [] pos2) X.env) :: starEach [] X.env := by rfl) :
    PE X (.Call (.Name "list" p) [.Call (.Name "range" p2) [a] [] pos2] [] pos) (tD X.K Tb W (dOne bLstR1 f)) :=
  (pe_listRg hc hl ml (prg_1 hr mr ha n1) n2).by fun σ H Q ⟨H0, O0, O, ρ, st, h⟩ => ⟨H0, O0, O, ρ, st, by
    refine Post.then h fun d v H1 ex rv k => ?_
    unfold bLstR1 at k
    split at k
    · rename_i n
      cases rv
      split at k
      · rename_i z
        refine ⟨n, rfl, rgOk_ok z, fun q hq => ?_⟩
        have al := (st.step ex).al
        refine k _ _ (Ext.new hq) (.lst (.of ?_) (lstRg_len _ _ z) (rp_rg _ _))
        rw [hide_out (fun m => al q m hq)]
        exact upd_same
      · exact k.elim
    · exact k.elim⟩
theorem fn_lstR1 (hc : X.calm = true) (hl : Gl X "list") (ml : X.mg "list" = none) (hr : Gl X "range") (mr : X.mg "range" = none) (ha : PE X a (tD X.K Tb W f))
    (n1 : starEach [a] X.env = (false, eval a X.env) :: starEach [] X.env := by rfl) (n2 : starEach [.Call (.Name "range" p2) [a] [] pos2] X.env = (false, eval (.Call (.Name "range" p2) [a] [] pos2) X.env) :: starEach [] X.env := by rfl) :
    PE X (.Call (.Name "list" p) [.Call (.Name "range" p2) [a] [] pos2] [] pos) (tN X.K Tb W (dOne bLstR1 f)) :=
  (pe_listRg hc hl ml (prg_1 hr mr ha n1) n2).by fun σ H Q ⟨H0, O0, O, ρ, st, h⟩ => ⟨H0, O0, O, ρ, st, by
    refine tN_of (x := f ρ) (u := bLstR1) h (fun a e q => by unfold bLstR1 at q; split at q <;> (try split at q) <;> cases q) fun d v H1 ex rv ds' e k => ?_
    unfold bLstR1 at e
    split at e
    · rename_i n
      cases rv
      split at e
      · rename_i z
        cases e
        exact ⟨n, rfl, rgOk_ok z, fun q hq => k q _ _ (Ext.new hq) hq upd_same (lstRg_len _ _ z) (rp_rg _ _)⟩
      · cases e
    · cases e⟩
theorem fd_lstR2 (hc : X.calm = true) (hl : Gl X "list") (ml : X.mg "list" = none) (hr : Gl X "range") (mr : X.mg "range" = none) (ha : PE X a (tD X.K Tb W f)) (hb : PE X b (tD X.K Tb W g))
    (n1 : starEach [a, b] X.env = (false, eval a X.env) :: starEach [b] X.env := by rfl) (n3 : starEach [b] X.env = (false, eval b X.env) :: starEach [] X.env := by rfl) (n4 : (backTo pos2 (starEach [b] X.env)).any (·.1) = false := by rfl)
    (n2 : starEach [.Call (.Name "range" p2) [a, b] [] pos2] X.env = (false, eval (.Call (.Name "range" p2) [a, b] [] pos2) X.env) :: starEach [] X.env := by rfl) :
    PE X (.Call (.Name "list" p) [.Call (.Name "range" p2) [a, b] [] pos2] [] pos) (tD X.K Tb W (dTwo bLstR2 f g)) :=
  (pe_listRg hc hl ml (prg_2 hr mr ha hb n1 n3 n4) n2).by fun σ H Q ⟨H0, O0, O, ρ, st, h⟩ => ⟨H0, O0, O, ρ, st, by
    refine Post.then h fun d v H1 ex rv k => ⟨H0, O0, O, ρ, st.step ex, ?_⟩
    refine Post.then k fun d2 v2 H2 ex2 rv2 k => ?_
    have rw' := rv.mono (Sub.hide ex2.keep)
    clear rv
    unfold bLstR2 at k
    split at k
    · cases rw'; cases rv2
      split at k
      · rename_i z
        refine ⟨_, _, rfl, rfl, rgOk_ok z, fun q hq => ?_⟩
        have al := ((st.step ex).step ex2).al
        refine k _ _ (Ext.new hq) (.lst (.of ?_) (lstRg_len _ _ z) (rp_rg _ _))
        rw [hide_out (fun m => al q m hq)]
        exact upd_same
      · exact k.elim
    · exact k.elim⟩
end

/-! ### x += e, ints -/
def oAddI : PyData → PyData → R PyData
  | .int a, .int b => .ok (.int (a + b))
  | _, _ => .bad
section
variable {X : Cx} {Tb : List Addr} {W : WX} {e : Expr} {f : Dn} {pos p : Pos} {x : Str}
def gAug (i : Nat) (f : Dn) : Sn := fun ρ => oR (dVar i ρ) ρ fun a => oR (f ρ) ρ fun d => oR (oAddI a d) ρ fun d => .nx (ρ.set i (some (.d d)))
end
end PD

set_option Elab.async false
set_option linter.all false
set_option maxRecDepth 100000
set_option maxHeartbeats 1000000
namespace PD
open PySem PySem.Spec PyProof.Rows L2

/-- the module hides none of the names that Python gives -/
structure Bi (mg : Str → Option Value) : Prop where
  len : mg "len" = none
  int : mg "int" = none
  bool : mg "bool" = none
  abs : mg "abs" = none
  tuple : mg "tuple" = none
  list : mg "list" = none
  sum : mg "sum" = none
  max : mg "max" = none
  min : mg "min" = none
  any : mg "any" = none
  all : mg "all" = none
  range : mg "range" = none
  isinstance : mg "isinstance" = none
  sorted : mg "sorted" = none
  enumerate : mg "enumerate" = none
  zip : mg "zip" = none
  set : mg "set" = none
section
variable {X : Cx} {Tb : List Addr} {W : WX} {a b e : Expr} {es : List Expr} {f g : Dn} {gl : DnL} {pos p : Pos} {k : Nat}
theorem boot_max : bootBuiltins "max" = some (.builtin "max") := by decide +kernel
theorem boot_min : bootBuiltins "min" = some (.builtin "min") := by decide +kernel
theorem boot_sum : bootBuiltins "sum" = some (.builtin "sum") := by decide +kernel
theorem boot_abs : bootBuiltins "abs" = some (.builtin "abs") := by decide +kernel
theorem boot_sorted : bootBuiltins "sorted" = some (.builtin "sorted") := by decide +kernel
theorem boot_any : bootBuiltins "any" = some (.builtin "any") := by decide +kernel
theorem boot_all : bootBuiltins "all" = some (.builtin "all") := by decide +kernel
theorem _root_.L2.Room.u64 {k : Nat} {A : Around} (r : Room k A) : A.units + 64 < cLine := by have := r.un; omega
theorem _root_.L2.Room.u65 {k : Nat} {A : Around} (r : Room k A) : A.units + 65 < cLine := by have := r.un; omega
theorem e_eq (hr : Room k X.A) (ha : PE X a (tD X.K Tb W f)) (hb : PE X b (tD X.K Tb W g)) (hm : behindInMarks .Eq b = false := by rfl) : PE X (.Compare a [.Eq] [b] pos) (tD X.K Tb W (dTwo oEq f g)) := fd_cmp (op_eqD hr.u64) ok_eq ha hb hm
theorem e_ne (hr : Room k X.A) (ha : PE X a (tD X.K Tb W f)) (hb : PE X b (tD X.K Tb W g)) (hm : behindInMarks .NotEq b = false := by rfl) : PE X (.Compare a [.NotEq] [b] pos) (tD X.K Tb W (dTwo oNe f g)) := fd_cmp (op_neD hr.u64) ok_ne ha hb hm
theorem e_lt (ha : PE X a (tD X.K Tb W f)) (hb : PE X b (tD X.K Tb W g)) (hm : behindInMarks .Lt b = false := by rfl) : PE X (.Compare a [.Lt] [b] pos) (tD X.K Tb W (dTwo oLt f g)) := fd_cmp op_lt ok_lt ha hb hm
theorem e_le (ha : PE X a (tD X.K Tb W f)) (hb : PE X b (tD X.K Tb W g)) (hm : behindInMarks .LtE b = false := by rfl) : PE X (.Compare a [.LtE] [b] pos) (tD X.K Tb W (dTwo oLe f g)) := fd_cmp op_le ok_le ha hb hm
theorem e_gt (ha : PE X a (tD X.K Tb W f)) (hb : PE X b (tD X.K Tb W g)) (hm : behindInMarks .Gt b = false := by rfl) : PE X (.Compare a [.Gt] [b] pos) (tD X.K Tb W (dTwo oGt f g)) := fd_cmp op_gt ok_gt ha hb hm
theorem e_ge (ha : PE X a (tD X.K Tb W f)) (hb : PE X b (tD X.K Tb W g)) (hm : behindInMarks .GtE b = false := by rfl) : PE X (.Compare a [.GtE] [b] pos) (tD X.K Tb W (dTwo oGe f g)) := fd_cmp op_ge ok_ge ha hb hm
theorem e_in (hr : Room k X.A) (ha : PE X a (tD X.K Tb W f)) (hb : PE X b (tD X.K Tb W g)) (hm : behindInMarks .In b = false := by rfl) : PE X (.Compare a [.In] [b] pos) (tD X.K Tb W (dTwo oIn f g)) := fd_cmp (PD.op_inS hr.u65) ok_in ha hb hm
theorem e_notin (hr : Room k X.A) (ha : PE X a (tD X.K Tb W f)) (hb : PE X b (tD X.K Tb W g)) (hm : behindInMarks .NotIn b = false := by rfl) : PE X (.Compare a [.NotIn] [b] pos) (tD X.K Tb W (dTwo oNotIn f g)) := fd_cmp (PD.op_notInS hr.u65) ok_notIn ha hb hm
theorem t_eq (hr : Room k X.A) (ha : PE X a (tD X.K Tb W f)) (hb : PE X b (tD X.K Tb W g)) (hm : behindInMarks .Eq b = false := by rfl) : PT X (.Compare a [.Eq] [b] pos) (tDT X.K Tb W (dAsB (dTwo oEq f g))) := ft_cmp (op_eqD hr.u64) ok_eq ha hb hm
theorem t_ne (hr : Room k X.A) (ha : PE X a (tD X.K Tb W f)) (hb : PE X b (tD X.K Tb W g)) (hm : behindInMarks .NotEq b = false := by rfl) : PT X (.Compare a [.NotEq] [b] pos) (tDT X.K Tb W (dAsB (dTwo oNe f g))) := ft_cmp (op_neD hr.u64) ok_ne ha hb hm
theorem t_lt (ha : PE X a (tD X.K Tb W f)) (hb : PE X b (tD X.K Tb W g)) (hm : behindInMarks .Lt b = false := by rfl) : PT X (.Compare a [.Lt] [b] pos) (tDT X.K Tb W (dAsB (dTwo oLt f g))) := ft_cmp op_lt ok_lt ha hb hm
theorem t_le (ha : PE X a (tD X.K Tb W f)) (hb : PE X b (tD X.K Tb W g)) (hm : behindInMarks .LtE b = false := by rfl) : PT X (.Compare a [.LtE] [b] pos) (tDT X.K Tb W (dAsB (dTwo oLe f g))) := ft_cmp op_le ok_le ha hb hm
theorem t_gt (ha : PE X a (tD X.K Tb W f)) (hb : PE X b (tD X.K Tb W g)) (hm : behindInMarks .Gt b = false := by rfl) : PT X (.Compare a [.Gt] [b] pos) (tDT X.K Tb W (dAsB (dTwo oGt f g))) := ft_cmp op_gt ok_gt ha hb hm
theorem t_ge (ha : PE X a (tD X.K Tb W f)) (hb : PE X b (tD X.K Tb W g)) (hm : behindInMarks .GtE b = false := by rfl) : PT X (.Compare a [.GtE] [b] pos) (tDT X.K Tb W (dAsB (dTwo oGe f g))) := ft_cmp op_ge ok_ge ha hb hm
theorem t_in (hr : Room k X.A) (ha : PE X a (tD X.K Tb W f)) (hb : PE X b (tD X.K Tb W g)) (hm : behindInMarks .In b = false := by rfl) : PT X (.Compare a [.In] [b] pos) (tDT X.K Tb W (dAsB (dTwo oIn f g))) := ft_cmp (PD.op_inS hr.u65) ok_in ha hb hm
theorem t_notin (hr : Room k X.A) (ha : PE X a (tD X.K Tb W f)) (hb : PE X b (tD X.K Tb W g)) (hm : behindInMarks .NotIn b = false := by rfl) : PT X (.Compare a [.NotIn] [b] pos) (tDT X.K Tb W (dAsB (dTwo oNotIn f g))) := ft_cmp (PD.op_notInS hr.u65) ok_notIn ha hb hm
theorem e_ix (ha : PE X a (tD X.K Tb W f)) (hb : PE X b (tD X.K Tb W g)) (hs : PlainIx b := by intro _ _; rfl) : PE X (.Subscript a b pos) (tD X.K Tb W (dTwo oIx f g)) := fd_ix ha hb hs
theorem e_len (B : Bi X.mg) (ha : PA X (e :: es) (tDs X.K Tb W gl)) (hg : Gl X "len" := by rfl) (he : starEach (e :: es) X.env = (false, eval e X.env) :: starEach es X.env := by rfl) (hpl : (backTo pos (starEach es X.env)).any (·.1) = false := by rfl) :
    PE X (.Call (.Name "len" p) (e :: es) [] pos) (tD X.K Tb W (dArg bLen gl)) := fd_callB call_len_seq ok_len hg B.len PySem.boot_len ha (by decide) (by decide) he hpl
theorem e_int (B : Bi X.mg) (ha : PA X (e :: es) (tDs X.K Tb W gl)) (hg : Gl X "int" := by rfl) (he : starEach (e :: es) X.env = (false, eval e X.env) :: starEach es X.env := by rfl) (hpl : (backTo pos (starEach es X.env)).any (·.1) = false := by rfl) :
    PE X (.Call (.Name "int" p) (e :: es) [] pos) (tD X.K Tb W (dArg bInt gl)) := fd_callTy call_int1 ok_int hg B.int boot_int ha (by decide) (by decide) he hpl
theorem e_abs (B : Bi X.mg) (ha : PA X (e :: es) (tDs X.K Tb W gl)) (hg : Gl X "abs" := by rfl) (he : starEach (e :: es) X.env = (false, eval e X.env) :: starEach es X.env := by rfl) (hpl : (backTo pos (starEach es X.env)).any (·.1) = false := by rfl) :
    PE X (.Call (.Name "abs" p) (e :: es) [] pos) (tD X.K Tb W (dArg bAbs gl)) := fd_callB call_abs ok_abs hg B.abs boot_abs ha (by decide) (by decide) he hpl
theorem e_tuple (B : Bi X.mg) (ha : PA X (e :: es) (tDs X.K Tb W gl)) (hg : Gl X "tuple" := by rfl) (he : starEach (e :: es) X.env = (false, eval e X.env) :: starEach es X.env := by rfl) (hpl : (backTo pos (starEach es X.env)).any (·.1) = false := by rfl) :
    PE X (.Call (.Name "tuple" p) (e :: es) [] pos) (tD X.K Tb W (dArg bTuple gl)) := fd_callTy call_tuple_of ok_tuple hg B.tuple boot_tuple ha (by decide) (by decide) he hpl
theorem e_list (B : Bi X.mg) (ha : PA X (e :: es) (tDs X.K Tb W gl)) (hg : Gl X "list" := by rfl) (he : starEach (e :: es) X.env = (false, eval e X.env) :: starEach es X.env := by rfl) (hpl : (backTo pos (starEach es X.env)).any (·.1) = false := by rfl) :
    PE X (.Call (.Name "list" p) (e :: es) [] pos) (tD X.K Tb W (dArg bList gl)) := fd_callTy call_list_of ok_list hg B.list boot_list ha (by decide) (by decide) he hpl
theorem e_sum (B : Bi X.mg) (ha : PA X (e :: es) (tDs X.K Tb W gl)) (hc : X.calm = true := by rfl) (hg : Gl X "sum" := by rfl) (he : starEach (e :: es) X.env = (false, eval e X.env) :: starEach es X.env := by rfl) (hpl : (backTo pos (starEach es X.env)).any (·.1) = false := by rfl) :
    PE X (.Call (.Name "sum" p) (e :: es) [] pos) (tD X.K Tb W (dArg bSum gl)) := fd_callB (cr_sum hc) ok_sum hg B.sum boot_sum ha (by decide) (by decide) he hpl
theorem e_max (B : Bi X.mg) (ha : PA X (e :: es) (tDs X.K Tb W gl)) (hc : X.calm = true := by rfl) (hg : Gl X "max" := by rfl) (he : starEach (e :: es) X.env = (false, eval e X.env) :: starEach es X.env := by rfl) (hpl : (backTo pos (starEach es X.env)).any (·.1) = false := by rfl) :
    PE X (.Call (.Name "max" p) (e :: es) [] pos) (tD X.K Tb W (dArg bMax gl)) := fd_callB (cr_max hc) ok_max hg B.max boot_max ha (by decide) (by decide) he hpl
theorem e_min (B : Bi X.mg) (ha : PA X (e :: es) (tDs X.K Tb W gl)) (hc : X.calm = true := by rfl) (hg : Gl X "min" := by rfl) (he : starEach (e :: es) X.env = (false, eval e X.env) :: starEach es X.env := by rfl) (hpl : (backTo pos (starEach es X.env)).any (·.1) = false := by rfl) :
    PE X (.Call (.Name "min" p) (e :: es) [] pos) (tD X.K Tb W (dArg bMin gl)) := fd_callB (cr_min hc) ok_min hg B.min boot_min ha (by decide) (by decide) he hpl
theorem e_max2 (B : Bi X.mg) (ha : PA X (e :: es) (tDs X.K Tb W gl)) (hc : X.calm = true := by rfl) (hg : Gl X "max" := by rfl) (he : starEach (e :: es) X.env = (false, eval e X.env) :: starEach es X.env := by rfl) (hpl : (backTo pos (starEach es X.env)).any (·.1) = false := by rfl) :
    PE X (.Call (.Name "max" p) (e :: es) [] pos) (tD X.K Tb W (dArg bMax2 gl)) := fd_callB (call_max2 hc) ok_max2 hg B.max boot_max ha (by decide) (by decide) he hpl
theorem e_min2 (B : Bi X.mg) (ha : PA X (e :: es) (tDs X.K Tb W gl)) (hc : X.calm = true := by rfl) (hg : Gl X "min" := by rfl) (he : starEach (e :: es) X.env = (false, eval e X.env) :: starEach es X.env := by rfl) (hpl : (backTo pos (starEach es X.env)).any (·.1) = false := by rfl) :
    PE X (.Call (.Name "min" p) (e :: es) [] pos) (tD X.K Tb W (dArg bMin2 gl)) := fd_callB (call_min2 hc) ok_min2 hg B.min boot_min ha (by decide) (by decide) he hpl
theorem e_any (B : Bi X.mg) (ha : PA X (e :: es) (tDs X.K Tb W gl)) (hc : X.calm = true := by rfl) (hg : Gl X "any" := by rfl) (he : starEach (e :: es) X.env = (false, eval e X.env) :: starEach es X.env := by rfl) (hpl : (backTo pos (starEach es X.env)).any (·.1) = false := by rfl) :
    PE X (.Call (.Name "any" p) (e :: es) [] pos) (tD X.K Tb W (dArg bAny gl)) := fd_callB (cr_any hc) ok_any hg B.any boot_any ha (by decide) (by decide) he hpl
theorem e_all (B : Bi X.mg) (ha : PA X (e :: es) (tDs X.K Tb W gl)) (hc : X.calm = true := by rfl) (hg : Gl X "all" := by rfl) (he : starEach (e :: es) X.env = (false, eval e X.env) :: starEach es X.env := by rfl) (hpl : (backTo pos (starEach es X.env)).any (·.1) = false := by rfl) :
    PE X (.Call (.Name "all" p) (e :: es) [] pos) (tD X.K Tb W (dArg bAll gl)) := fd_callB (cr_all hc) ok_all hg B.all boot_all ha (by decide) (by decide) he hpl
theorem e_sorted (B : Bi X.mg) (hr : Room k X.A) (ha : PA X (e :: es) (tDs X.K Tb W gl)) (hg : Gl X "sorted" := by rfl) (he : starEach (e :: es) X.env = (false, eval e X.env) :: starEach es X.env := by rfl) (hpl : (backTo pos (starEach es X.env)).any (·.1) = false := by rfl) :
    PE X (.Call (.Name "sorted" p) (e :: es) [] pos) (tD X.K Tb W (dArg bSorted gl)) := fd_callB (cr_sortD hr.u64) ok_sorted hg B.sorted boot_sorted ha (by decide) (by decide) he hpl
theorem e_isInt (B : Bi X.mg) {py : Pos} (ha : PE X a (tD X.K Tb W f)) (hg : Gl X "isinstance" := by rfl) (hgy : Gl X "int" := by rfl) (he : starEach [a, .Name "int" py] X.env = (false, eval a X.env) :: starEach [.Name "int" py] X.env := by rfl) (he2 : starEach [.Name "int" py] X.env = (false, eval (.Name "int" py) X.env) :: starEach [] X.env := by rfl) (hpl : (backTo pos (starEach [.Name "int" py] X.env)).any (·.1) = false := by rfl) :
    PE X (.Call (.Name "isinstance" p) [a, .Name "int" py] [] pos) (tD X.K Tb W (dOne (oIsi "int") f)) := fd_isi ha hg B.isinstance hgy B.int boot_int (by decide) (by decide) he he2 hpl
theorem e_isBool (B : Bi X.mg) {py : Pos} (ha : PE X a (tD X.K Tb W f)) (hg : Gl X "isinstance" := by rfl) (hgy : Gl X "bool" := by rfl) (he : starEach [a, .Name "bool" py] X.env = (false, eval a X.env) :: starEach [.Name "bool" py] X.env := by rfl) (he2 : starEach [.Name "bool" py] X.env = (false, eval (.Name "bool" py) X.env) :: starEach [] X.env := by rfl) (hpl : (backTo pos (starEach [.Name "bool" py] X.env)).any (·.1) = false := by rfl) :
    PE X (.Call (.Name "isinstance" p) [a, .Name "bool" py] [] pos) (tD X.K Tb W (dOne (oIsi "bool") f)) := fd_isi ha hg B.isinstance hgy B.bool boot_bool (by decide) (by decide) he he2 hpl
theorem e_isTuple (B : Bi X.mg) {py : Pos} (ha : PE X a (tD X.K Tb W f)) (hg : Gl X "isinstance" := by rfl) (hgy : Gl X "tuple" := by rfl) (he : starEach [a, .Name "tuple" py] X.env = (false, eval a X.env) :: starEach [.Name "tuple" py] X.env := by rfl) (he2 : starEach [.Name "tuple" py] X.env = (false, eval (.Name "tuple" py) X.env) :: starEach [] X.env := by rfl) (hpl : (backTo pos (starEach [.Name "tuple" py] X.env)).any (·.1) = false := by rfl) :
    PE X (.Call (.Name "isinstance" p) [a, .Name "tuple" py] [] pos) (tD X.K Tb W (dOne (oIsi "tuple") f)) := fd_isi ha hg B.isinstance hgy B.tuple boot_tuple (by decide) (by decide) he he2 hpl
end

/-! ### defs by name -/
def FnD (P : Program) (w : World) (K : PySem.W.Frag) (mg : Str → Option Value) (base : Heap) (Tb : List Addr) (x : Str) (k : Nat) (m : List PyData → R PyData) : Prop :=
  ∃ (f : Addr) (fd : FuncData) (ps : List Str), FnOk P w K mg base (L2.CX P w) k f fd ps (spD K Tb m) ∧ mg x = some (.ref f) ∧ PySem.W.keepIn K (.ref f) = true ∧ Binds K fd ps []
section
variable {X : Cx} {Tb : List Addr} {W : WX} {k j : Nat} {m : List PyData → R PyData} {x : Str} {p pos : Pos} {e : Expr} {es : List Expr} {gl : DnL}
theorem e_call (F : FnD X.prog X.w X.K X.mg X.base Tb x k m) (hx : ∀ σ, PassesAt (L2.CX X.prog X.w) X σ (L2.WE W σ)) (hr : Room j X.A) (ha : PA X (e :: es) (tDs X.K Tb W gl)) (hj : k ≤ j := by decide) (hg : Gl X x := by rfl)
    (hdb : (x == ("__debug__" : Str)) = false := by decide) (he : starEach (e :: es) X.env = (false, eval e X.env) :: starEach es X.env := by rfl) (hpl : (backTo pos (starEach es X.env)).any (·.1) = false := by rfl) :
    PE X (.Call (.Name x p) (e :: es) [] pos) (tD X.K Tb W (dArg m gl)) := by
  obtain ⟨f, fd, ps, h, g, kp, b⟩ := F
  exact fd_call h (hr.mono hj) hg g kp b hx ha hdb he hpl
end
end PD

set_option Elab.async false
set_option linter.all false
set_option maxRecDepth 100000
set_option maxHeartbeats 1000000
namespace PD
open PySem PySem.Spec PyProof.Rows L2
theorem funC_mk {K : PySem.W.Frag} {x qual : Str} {st : Stmt} {f c : Addr} {oc : Value} {od an : Option Addr} {osl : Array (Option Value)} {kV doc pm ct : Value} (l : K.lookup f = some ⟨oc, od, .func (PySem.W.fnOf x qual (defArgs st) (defBody st) (defScope st) .none kV doc pm an (.ref c) ct), osl⟩)
    (h : PySem.W.codeIn K (.ref c) qual = true) (k : PySem.W.keepIn K (.ref f) = true) : FunC K x qual st f (PySem.W.fnOf x qual (defArgs st) (defBody st) (defScope st) .none kV doc pm an (.ref c) ct) c := ⟨⟨oc, od, kV, doc, pm, an, ct, osl, rfl, l, h⟩, k⟩
theorem cx_no {l : PySem.W.OpenLaw} : ∀ (w : World) (H : Hp) (s : Shared) (e : Value) (s' : Shared), L2.CX l.prog w [] H s (fun _ _ _ => False) e s' → False := fun _ _ _ _ _ h => by
  obtain ⟨_, _, _, _, _, _, _, _, _, _, _, _, z⟩ := h
  exact z
theorem hide0 (H : Hp) : hide [] H = H := by funext b; unfold hide; rw [if_neg (by simp)]
theorem rp_ints {K : PySem.W.Frag} {G : Hp} : ∀ ns : List Int, RpAll K G (ns.map V.int) (ns.map PyData.int)
  | [] => .nil
  | n :: r => .cons (.int n) (rp_ints r)
theorem spD_law0 {K : PySem.W.Frag} {m : List PyData → R PyData} (hm : ∀ ns : List Int, ns.length ≤ 63 → m [.list (ns.map .int)] = .ok (.bool true)) {H : Hp} {a : Addr} {ns : List Int} (hl : ns.length ≤ 63) (hS : SqL K H a (ns.map V.int)) :
    spD K [] m [.ref a] H (fun v _ => v = .bl true) fun _ _ _ => False := by
  refine ⟨[], [.list (ns.map .int)], fun b m => by simp at m, fun P m => by simp at m, .cons (.lst (by rw [hide0]; exact hS) ?_ (rp_ints ns)) .nil, ?_⟩
  · rw [List.length_map, sizeLine_eq]; omega
  · rw [hm ns hl]
    intro v H' e r
    have r : Rp K (hide [] H') v (.bool true) := r
    cases r
    rfl
theorem spD_law {K : PySem.W.Frag} {Tb : List Addr} {m : List PyData → R PyData} (hm : ∀ ns : List Int, ns.length ≤ 63 → m [.list (ns.map .int)] = .ok (.bool true)) {H : Hp} {a : Addr} {ns : List Int} (hT : ∀ P ∈ Tb, TabC H P) (hl : ns.length ≤ 63) (hS : SqL K H a (ns.map V.int)) :
    spD K Tb m [.ref a] H (fun v _ => v = .bl true) fun _ _ _ => False := by
  refine ⟨[], [.list (ns.map .int)], fun b m => by simp at m, hT, .cons (.lst (by rw [hide0]; exact hS) ?_ (rp_ints ns)) .nil, ?_⟩
  · rw [List.length_map, sizeLine_eq]; omega
  · rw [hm ns hl]
    intro v H' e r
    have r : Rp K (hide [] H') v (.bool true) := r
    cases r
    rfl
end PD

set_option Elab.async false
set_option linter.all false
set_option maxRecDepth 100000
set_option maxHeartbeats 1000000
namespace PD
open PySem PySem.Spec PyProof.Rows L2
theorem tabB_of {base : Heap} {mg : Str → Option Value} {c P : Addr} (t : LamX.TabB base mg c P) : GxR.TabB base mg c P := ⟨t.code, t.bm, t.gP⟩
theorem tabIn_of {K : PySem.W.Frag} {x : Str} {f c P : Addr} {oc e : Value} {od dd : Option Addr} {fd : FuncData} {sl sl' : Array (Option Value)} {vs : Array Value} (a : PySem.W.nsIn K mainGlobals x = some (some (.ref f))) (l : K.lookup f = some ⟨oc, od, .func fd, sl⟩) (hc : fd.code = .ref c)
    (lc : K.lookup c = some ⟨e, dd, .fields vs, sl'⟩) (hv : vs[11]? = some (.ref P)) : PySem.W.tabIn K x = some (c, P) := by
  unfold PySem.W.tabIn
  rw [a]
  simp only [l, hc, lc, hv]
/-- what the top has left of each def's code object: its table is empty -/
def Tabs (q : Program) (K : PySem.W.Frag) (h : Heap) : Prop :=
  ∀ (x : Str) (d : DefRec) (c P : Addr), (recsOf q).find? (fun e => e.name == x) = some d → PySem.W.tabIn K x = some (c, P) → PySem.W.CodeHd h c P ∧ h.get? P = some (PySem.W.tabObj #[])
theorem walk_tabs {l : PySem.W.OpenLaw} {n k : Nat} {q : Program} {loose : List Str} {XP : (Str → Option Value) → Heap → Prop} {YP : World → Heap → Prop} {d : DefRec} {K : Params → PySem.W.Frag} {CX : World → CXT} {x : Str}
    (hn : l.most = some n) (hn2 : n ≤ sizeLine) (hdf : d.params.defaults = [])
    (hr : Room k callerA) (hY : ∀ (w : World) (h : Heap), YP w h → (K w.params).In h)
    (F : ∀ (w : World) (mg : Str → Option Value) (fa : Addr) (h : Heap), Tabs q (K w.params) h → (K w.params).In h → h.Ns mainGlobals mg → mg d.name = some (.ref fa) → LamX.LawAtS l w (K w.params) (CX w) k n x mg fa h)
    (hCX : ∀ (w : World) (H : Hp) (s : Shared) (e : Value) (s' : Shared), CX w [] H s (fun _ _ _ => False) e s' → False) :
    PySem.W.WalkO q loose XP YP l.row.toRowW d [] (fun f vs => PySem.call f vs) := by
  refine Att.attach_callB hn hdf ?_
  intro w s₀ s₁ mg mb fa o pm cd doc a vs ns G Y _ _ _ hmg hobj hints hlen hbits hg
  have KX := hY w _ Y
  have tabs : Tabs q (K w.params) s₁.heap := fun x d c P h1 h2 => PySem.W.tab_of G.T KX h1 h2
  obtain ⟨fd, cs, sp, hT, nT, C, hb, hsp, hF⟩ := F w mg fa _ tabs KX G.T.g hmg
  refine LamX.law_callTs KX G.T.g G.T.b G.T.builtins G.T.nolimit hg hT nT C G.T.bmain hobj hints (Nat.le_trans hlen hn2) hr hF hb (fun H hH hS => ?_) fun H e s' => ?_
  · exact hsp H a ns hlen hbits hH hS
  · exact hCX w H s₁ e s'
end PD

set_option Elab.async false
set_option linter.all false
set_option maxRecDepth 100000
set_option maxHeartbeats 1000000
namespace PD
open PySem PySem.Spec PyProof.Rows L2

/-! ### dicts whose keys are tuples of ints, every value True -/
section
variable {X : Cx} {pins : List (Addr × Obj)} {σ : L2.St} {H : Hp} {s : Shared}
theorem itemsAre_of {P : Program} {w : World} : ∀ {k : List Int} {its : List Value}, Vals (k.map V.int) its → ItemsAre (intKind P w) k its
  | [], _, h => by cases h; exact .nil
  | i :: k, _, h => by
    cases h with
    | cons r t =>
      obtain ⟨u, rfl⟩ := r
      exact .cons (by show Value.isInt i (.int i u) = true; simp [Value.isInt]) (itemsAre_of t)
theorem key_is (I : Inv X pins σ H s) {b : Addr} {k : List Int} (h : SqT X.K H b (k.map V.int)) : (ikt X.prog X.w).is s.heap k b := by
  obtain ⟨its, rv, ⟨o, e, c, n, d⟩, _⟩ := I.tuple h
  exact ⟨o, its.toArray, n, e, c, d, itemsAre_of rv⟩
abbrev kvT (xs : List (List Int × Addr)) : List (List Int × Addr × Value) := xs.map fun x => (x.1, x.2, .bool true)
theorem dct_at (I : Inv X pins σ H s) {a : Addr} {ep : Nat} {xs : List (List Int × Addr)} (h : H a = some (dctO a ep xs)) (hk : ∀ x ∈ xs, SqT X.K H x.2 (x.1.map V.int)) : (a == sysModules) = false ∧ xs.length ≤ sizeLine ∧ s.heap.DictOfH (ikt X.prog X.w) a (kvT xs) := by
  obtain ⟨⟨h1, h2, h3, o, es, e1, e2, e3, e4⟩, _, _⟩ := I.hok a _ h
  refine ⟨h1, h2, o, es, ep, e1, e2, e3, ?_, fun x hx => ?_, ?_⟩
  · rw [e4 X.prog X.w, List.map_map]; rfl
  · obtain ⟨y, hy, rfl⟩ := List.mem_map.mp hx
    exact key_is I (hk y hy)
  · rw [List.map_map]; exact h3
theorem dct_ok {P : Program} {w : World} {H' : Hp} {h : Heap} {a : Addr} {xs : List (List Int × Addr)} (h1 : (a == sysModules) = false) (h2 : xs.length ≤ sizeLine) (d : h.DictOfH (ikt P w) a (kvT xs)) : ∃ ep, ObjOk P w H' h a (dctO a ep xs) := by
  obtain ⟨o, es, ep, e1, e2, e3, e4, _, e6⟩ := d
  rw [List.map_map] at e6 e4
  refine ⟨ep, ⟨h1, h2, e6, o, es, e1, e2, e3, fun P' w' => e4⟩, ⟨o, e1⟩, fun k1 k2 p st => ?_⟩
  obtain ⟨h1, h2, h3, o, es, e1, e2, e3, e4⟩ := p
  exact ⟨h1, h2, h3, o, es, st o e1, e2, e3, e4⟩
theorem dct_new {P : Program} {w : World} {H' : Hp} (h : Heap) (hb : sysModules < h.objs.size) : ObjOk P w H' (h.push { cls := .type "dict", data := .dict #[] }) h.objs.size (dctO h.objs.size 0 []) := by
  have e : (h.push { cls := .type "dict", data := .dict #[] }).get? h.objs.size = some { cls := .type "dict", data := .dict #[] } := Heap.get?_push_size _ rfl
  refine ⟨⟨beq_eq_false_iff_ne.mpr (Nat.ne_of_gt hb), Nat.zero_le _, List.nodup_nil, _, #[], e, ⟨rfl, rfl, rfl⟩, rfl, fun _ _ => rfl⟩, ⟨_, e⟩, fun k1 k2 p st => ?_⟩
  obtain ⟨h1, h2, h3, o, es, e1, e2, e3, e4⟩ := p
  exact ⟨h1, h2, h3, o, es, st o e1, e2, e3, e4⟩
theorem dct_any {P : Program} {w : World} {H H' : Hp} {h : Heap} {a : Addr} {ep : Nat} {xs : List (List Int × Addr)} (o : ObjOk P w H h a (dctO a ep xs)) : ObjOk P w H' h a (dctO a ep xs) := o
def putT (xs : List (List Int × Addr)) (k : List Int) (b : Addr) : List (List Int × Addr) := if k ∈ xs.map (·.1) then xs else xs ++ [(k, b)]
theorem atKey_kvT (xs : List (List Int × Addr)) (k : List Int) : (atKey (kvT xs) k).isSome = decide (k ∈ xs.map (·.1)) := by
  unfold atKey
  induction xs with
  | nil => rfl
  | cons x r ih =>
    rw [show kvT (x :: r) = (x.1, x.2, .bool true) :: kvT r from rfl, List.find?_cons]
    by_cases e : x.1 = k
    · subst e; simp
    · have e' : ¬ k = x.1 := fun z => e z.symm
      simp only [e, decide_false, List.map_cons, List.mem_cons, e', false_or]
      exact ih
theorem stored_kvT (xs : List (List Int × Addr)) (k : List Int) (b : Addr) : storedH (kvT xs) k b (.bool true) = kvT (putT xs k b) := by
  unfold storedH putT
  by_cases h : k ∈ xs.map (·.1)
  · rw [if_pos (by rw [atKey_kvT]; exact decide_eq_true h), if_pos h]
    unfold kvT
    rw [List.map_map]
    refine List.map_congr_left fun x _ => ?_
    show putAt k (.bool true) (x.1, x.2, .bool true) = _
    unfold putAt
    split <;> rfl
  · rw [if_neg (by rw [atKey_kvT]; simpa using h), if_neg h]
    unfold kvT
    rw [List.map_append]; rfl
theorem putT_len (xs : List (List Int × Addr)) (k : List Int) (b : Addr) : (putT xs k b).length ≤ xs.length + 1 := by
  unfold putT; split <;> simp
theorem putT_mem {xs : List (List Int × Addr)} {k : List Int} {b : Addr} {x : List Int × Addr} (h : x ∈ putT xs k b) : x ∈ xs ∨ x = (k, b) := by
  unfold putT at h
  split at h
  · exact .inl h
  · rcases List.mem_append.mp h with h | h
    · exact .inl h
    · exact .inr (List.mem_singleton.mp h)
/-- d[k] = True -/
theorem store_dct {E : Value → Shared → Prop} {D b : Addr} {ep : Nat} {xs : List (List Int × Addr)} {k : List Int} {Q : Unit → Shared → Prop} (hu : X.A.units < cLine) (I : Inv X pins σ H s) (hD : H D = some (dctO D ep xs)) (hk : ∀ x ∈ xs, SqT X.K H x.2 (x.1.map V.int)) (hz : xs.length < sizeLine)
    (hb : SqT X.K H b (k.map V.int)) (h : ∀ ep' s', Inv X pins σ (upd H D (dctO D ep' (putT xs k b))) s' → Q () s') : wpAny (model X.prog X.w) X.A (dictSet D (.ref b) (.bool true)) Q E s := by
  obtain ⟨h1, h2, d⟩ := dct_at I hD hk
  refine wpAny_dictSet_heap (hsz := by rw [List.length_map]; exact h2) hu (key_is I hb) d fun h' d' hs => ?_
  rw [stored_kvT] at d'
  have he : ∃ q, h'.get? D = some q := let ⟨q, _, _, hq, _⟩ := d'; ⟨q, hq⟩
  obtain ⟨ep', ok⟩ := dct_ok (P := X.prog) (w := X.w) (H' := H) h1 (by have := putT_len xs k b; omega) d'
  exact h ep' _ (I.write (x := D) (e := D) (by rw [hD]; trivial) (.inl rfl) (fun b q hb z => (hs.2 b hb).trans z) he (dct_any ok))
/-- k in d -/
def rInT (K : PySem.W.Frag) (neg : Bool) : R2 := fun x y H Q => ∃ a b k ep xs, x = .ref b ∧ y = .ref a ∧ SqT K H b (k.map V.int) ∧ H a = some (dctO a ep xs) ∧ (∀ x ∈ xs, SqT K H x.2 (x.1.map V.int)) ∧ Q (.bl (if neg then !decide (k ∈ xs.map (·.1)) else decide (k ∈ xs.map (·.1)))) H
theorem op_inT (hu : X.A.units + 65 < cLine) : OpR X (compareOp .In) (rInT X.K false) := by
  intro pins s σ H x y v u Q I rx ry h
  obtain ⟨a, b, k, ep, xs, rfl, rfl, hb, ha, hk, q⟩ := h
  cases rx; cases ry
  obtain ⟨h1, h2, d⟩ := dct_at I ha hk
  refine wpAny_in_heap (show X.A.units + 1 < cLine by omega) (key_is I hb) h1 d ?_
  rw [atKey_kvT]
  exact ⟨.bl _, H, I.tok _, rfl, q⟩
theorem op_notInT (hu : X.A.units + 65 < cLine) : OpR X (compareOp .NotIn) (rInT X.K true) := by
  intro pins s σ H x y v u Q I rx ry h
  obtain ⟨a, b, k, ep, xs, rfl, rfl, hb, ha, hk, q⟩ := h
  cases rx; cases ry
  obtain ⟨h1, h2, d⟩ := dct_at I ha hk
  refine wpAny_notIn_heap (show X.A.units + 1 < cLine by omega) (key_is I hb) h1 d ?_
  rw [atKey_kvT]
  exact ⟨.bl _, H, I.tok _, rfl, q⟩
end

/-! ### the same of data -/
def asTu : PyData → Option (List Int)
  | .tuple l => asInts l
  | _ => none
def keysOf (kvs : List (PyData × PyData)) : List (Option (List Int)) := kvs.map fun p => asTu p.1
def oInT (d e : PyData) : R PyData := match e with
  | .dict kvs => (match asTu d with | some k => .ok (.bool (decide (some k ∈ keysOf kvs))) | none => .bad)
  | _ => .bad
def oNotInT (d e : PyData) : R PyData := match e with
  | .dict kvs => (match asTu d with | some k => .ok (.bool (!decide (some k ∈ keysOf kvs))) | none => .bad)
  | _ => .bad
theorem asInts_eq : ∀ {l : List PyData} {k : List Int}, asInts l = some k → l = k.map .int
  | [], _, h => by cases h; rfl
  | .int i :: r, k, h => by
    unfold asInts at h
    cases e : asInts r with
    | none => rw [e] at h; cases h
    | some k' => rw [e] at h; cases h; rw [List.map_cons, asInts_eq e]
  | .none :: _, _, h => by cases h
  | .bool _ :: _, _, h => by cases h
  | .str _ :: _, _, h => by cases h
  | .list _ :: _, _, h => by cases h
  | .tuple _ :: _, _, h => by cases h
  | .dict _ :: _, _, h => by cases h
theorem asInts_ints : ∀ l : List Int, asInts (l.map .int) = some l
  | [] => rfl
  | x :: r => by rw [List.map_cons, asInts, asInts_ints r]; rfl
theorem keysOf_dct (xs : List (List Int × Addr)) : keysOf (xs.map dctE) = xs.map fun x => some x.1 := by
  unfold keysOf
  rw [List.map_map]
  exact List.map_congr_left fun x _ => asInts_ints x.1
theorem rp_ints_inv {K : PySem.W.Frag} {G : Hp} : ∀ {k : List Int} {vs : List V}, RpAll K G vs (k.map .int) → vs = k.map V.int
  | [], _, h => by cases h; rfl
  | i :: k, _, h => by
    cases h with
    | cons r t => cases r; rw [List.map_cons, rp_ints_inv t]
theorem asTu_rp {K : PySem.W.Frag} {G : Hp} {v : V} {d : PyData} {k : List Int} (r : Rp K G v d) (h : asTu d = some k) : ∃ b, v = .ref b ∧ SqT K G b (k.map V.int) := by
  unfold asTu at h
  split at h
  · cases r with
    | tup a z b =>
      have e := asInts_eq h
      subst e
      rw [rp_ints_inv b] at a
      exact ⟨_, rfl, a⟩
  · cases h
theorem mem_some {α : Type} [DecidableEq α] (l : List (List Int × α)) (k : List Int) : decide (some k ∈ l.map fun x => some x.1) = decide (k ∈ l.map (·.1)) := by
  have : (some k ∈ l.map fun x => some x.1) ↔ k ∈ l.map (·.1) := by simp
  by_cases h : k ∈ l.map (·.1)
  · rw [decide_eq_true h, decide_eq_true (this.mpr h)]
  · rw [decide_eq_false h, decide_eq_false fun z => h (this.mp z)]
section
variable {K : PySem.W.Frag}
theorem ok_inT : Ok2 K (rInT K false) oInT := by
  intro O H Wx x y d e Q al hx hy h
  unfold oInT at h
  split at h
  · split at h
    · rename_i k hk
      obtain ⟨b, rfl, hb⟩ := asTu_rp hx hk
      cases hy with
      | dct a c =>
        rw [keysOf_dct, mem_some] at h
        exact ⟨_, b, k, _, _, rfl, rfl, Sub.unhide.sqT hb, (hide_some a).2, fun x hx => Sub.unhide.sqT (c x hx), Post.here h (.bl _)⟩
    · exact h.elim
  · exact h.elim
theorem ok_notInT : Ok2 K (rInT K true) oNotInT := by
  intro O H Wx x y d e Q al hx hy h
  unfold oNotInT at h
  split at h
  · split at h
    · rename_i k hk
      obtain ⟨b, rfl, hb⟩ := asTu_rp hx hk
      cases hy with
      | dct a c =>
        rw [keysOf_dct, mem_some] at h
        exact ⟨_, b, k, _, _, rfl, rfl, Sub.unhide.sqT hb, (hide_some a).2, fun x hx => Sub.unhide.sqT (c x hx), Post.here h (.bl _)⟩
    · exact h.elim
  · exact h.elim
end
section
variable {X : Cx} {Tb : List Addr} {W : WX} {a b : Expr} {f g : Dn} {pos : Pos} {k : Nat}
theorem e_inT (hr : Room k X.A) (ha : PE X a (tD X.K Tb W f)) (hb : PE X b (tD X.K Tb W g)) (hm : behindInMarks .In b = false := by rfl) : PE X (.Compare a [.In] [b] pos) (tD X.K Tb W (dTwo oInT f g)) := fd_cmp (op_inT hr.u65) ok_inT ha hb hm
theorem e_notinT (hr : Room k X.A) (ha : PE X a (tD X.K Tb W f)) (hb : PE X b (tD X.K Tb W g)) (hm : behindInMarks .NotIn b = false := by rfl) : PE X (.Compare a [.NotIn] [b] pos) (tD X.K Tb W (dTwo oNotInT f g)) := fd_cmp (op_notInT hr.u65) ok_notInT ha hb hm
theorem t_inT (hr : Room k X.A) (ha : PE X a (tD X.K Tb W f)) (hb : PE X b (tD X.K Tb W g)) (hm : behindInMarks .In b = false := by rfl) : PT X (.Compare a [.In] [b] pos) (tDT X.K Tb W (dAsB (dTwo oInT f g))) := ft_cmp (op_inT hr.u65) ok_inT ha hb hm
theorem t_notinT (hr : Room k X.A) (ha : PE X a (tD X.K Tb W f)) (hb : PE X b (tD X.K Tb W g)) (hm : behindInMarks .NotIn b = false := by rfl) : PT X (.Compare a [.NotIn] [b] pos) (tDT X.K Tb W (dAsB (dTwo oNotInT f g))) := ft_cmp (op_notInT hr.u65) ok_notInT ha hb hm
end
end PD

set_option Elab.async false
set_option linter.all false
set_option maxRecDepth 100000
set_option maxHeartbeats 1000000
namespace PD
open PySem PySem.Spec PyProof.Rows L2

/-! ### {key: True for target in iter if ..}, keys tuples of ints

What the block of such a comprehension needs is told in four steps: its frame (`inBlk`, `atBlk`), what a turn starts from (`AtTurn`), how a turn hands over to the next one, how the def around gets its state back. -/
section
variable (X : Cx) (s : Shared) (scope : Scope)
/-- the block's own environment -/
abbrev envBlk : Env := compEnvC scope (cellsFrom (s.heap.objs.size + 1) scope.names (cloFrom X.env.cells scope.names [])) s.heap.objs.size X.env
/-- the block's context -/
abbrev inBlk (H : Hp) (fp : List Addr) : Cx := X.blk s H scope (envBlk X s scope) fp
/-- the state with the block's frame and cells laid down -/
abbrev atBlk : Shared := { s with heap := pushCells (s.heap.push { cls := .type "dict", data := .dict #[] }) scope.names }
end
section
variable {X : Cx} {pins : List (Addr × Obj)} {σ : L2.St} {vs : List Nat} {s0 : Shared} {H0 : Hp} {scope : Scope} {fp : List Addr} {tn : Nat → Heap → Prop} {J : It} {tg : Expr} {it : Addr}

/-- a turn is about to start -/
structure AtTurn (X : Cx) (s0 : Shared) (H0 : Hp) (scope : Scope) (fp : List Addr) (tn : Nat → Heap → Prop) (τ : L2.St) (i : Nat) (H : Hp) (s : Shared) : Prop where
  inv : Inv (inBlk X s0 scope H0 fp) [] τ H s
  own : tn i s.heap
  hid : ∀ b ∈ fp, H b = none

theorem AtTurn.free {τ : L2.St} {i : Nat} {H : Hp} {s : Shared} (a : AtTurn X s0 H0 scope fp tn τ i H s) {b : Addr} (hb : b ∈ fp) : FpOk (inBlk X s0 scope H0 fp) [] H b := by
  have w := a.inv.ok.exf b hb
  refine ⟨a.hid b hb, w.1, a.inv.ok.exfs b hb, Or.inl hb, fun x c e => w.2 x c e, ?_⟩
  intro p hp
  simp [Cx.blk] at hp

theorem AtTurn.next {τ σ1 : L2.St} {i : Nat} {H1 : Hp} {s1 s2 : Shared} (T : Turn X.prog X.w X.K tg J fp it tn) (e : L2.wipe σ1 vs = L2.wipe σ vs) (t1 : tn i s1.heap)
    (I : Inv (inBlk X s0 scope H0 fp) ([] ++ pinsAt fp s1.heap) σ1 H1 s2) : AtTurn X s0 H0 scope fp tn (L2.wipe σ vs) i H1 s2 := by
  have same : ∀ b ∈ fp, ∀ o, s1.heap.get? b = some o → s2.heap.get? b = some o ∧ H1 b = none := by
    intro b hb o hbo
    have mem : (b, o) ∈ (inBlk X s0 scope H0 fp).pn ++ ([] ++ pinsAt fp s1.heap) := by
      rw [List.nil_append]
      exact List.mem_append_right _ (mem_pinsAt hb hbo)
    exact ⟨(I.pin _ mem).1, (I.pin _ mem).2.1⟩
  have wide : (L2.wipe σ vs).length = σ1.length := e ▸ wipe_length ..
  constructor
  · refine I.unpinned.weak wide ?_
    intro j v hj
    exact (wipe_some (e ▸ hj)).1
  · exact T.keep _ _ _ t1 fun b hb o hbo => (same b hb o hbo).1
  · intro b hb
    obtain ⟨o, hbo, -⟩ := T.obj _ _ t1 b hb
    exact (same b hb o hbo).2

/-- the def around the block, behind it -/
theorem AtTurn.leave {τ : L2.St} {H1 : Hp} {s1 : Shared} (I0 : Inv X pins σ H0 s0) (f0 : ∀ b ∈ fp, FpOk X pins H0 b) (I1 : Inv (inBlk X s0 scope H0 fp) [] τ H1 s1) :
    Inv X pins σ H1 s1 ∧ FpOk X pins H1 s0.heap.objs.size ∧ ∃ m, s1.heap.Ns s0.heap.objs.size m := by
  have fr : H1 s0.heap.objs.size = none := I1.free
  obtain ⟨m, hm, -⟩ := I1.loc
  refine ⟨I0.call' (ch := fp) I1.os I1.base I1.hok I1.bare ?_, I0.fpOk (Nat.le_refl _) fr, m, hm⟩
  intro b hb
  obtain ⟨-, b1, -, b3, b4, b5⟩ := f0 b hb
  exact ⟨b3, b1, b4, b5⟩

/-- what the rule asks of a turn -/
def keyTurn (K : PySem.W.Frag) (σ : L2.St) (vs : List Nat) (g : TG) (tt : TT) (tk : TE) (D : Addr) (Nx : Hp → Prop) (x : V) (H : Hp) : Prop :=
  g x (L2.wipe σ vs) H fun σ2 H2 => L2.wipe σ2 vs = L2.wipe σ vs ∧ tt σ2 H2 fun b H3 =>
    if b = true then tk σ2 H3 fun y H4 => ∃ ep xs p k, y = .ref p ∧ H4 D = some (dctO D ep xs) ∧ (∀ x ∈ xs, SqT K H4 x.2 (x.1.map V.int)) ∧ xs.length < sizeLine ∧ SqT K H4 p (k.map V.int) ∧ ∀ ep', Nx (upd H4 D (dctO D ep' (putT xs k p))) else Nx H3

def tDcT (K : PySem.W.Frag) (wi : TI) (g : TG) (tt : TT) (tk : TE) (vs : List Nat) : TE := fun σ H Q => wi σ H fun J H1 => ∀ D, H1 D = none → ∃ W : Nat → Nat → Hp → Prop, (∃ m, W 0 m (upd H1 D (dctO D 0 []))) ∧ ∀ i m H, W i m H →
  (J.stop i H ∧ Q (.ref D) H) ∨ (J.go i H ∧ ∃ Nx : Hp → Prop, (∀ H', Nx H' → ∃ m', m' < m ∧ W (i + 1) m' H') ∧ ∀ x H', J.yld i H x H' → keyTurn K σ vs g tt tk D Nx x H')

/-- all turns, from the first one on -/
theorem keyLoop {kx iter : Expr} {ifs : List Expr} {pos : Pos} {g : TG} {tt : TT} {tk : TE} {tpos : Pos} {tj : Nat} {D : Addr} {Q : VK} {R : Result → Shared → Prop} {W : Nat → Nat → Hp → Prop} {m0 : Nat}
    (hu : X.A.units < cLine) (hc : X.calm = true) (T : Turn X.prog X.w X.K tg J fp it tn)
    (pg : PG (inBlk X s0 scope H0 fp) tg g) (pt : PTs (inBlk X s0 scope H0 fp) ifs tt) (pk : PE (inBlk X s0 scope H0 fp) kx tk)
    (turn : ∀ i m H, W i m H → (J.stop i H ∧ Q (.ref D) H) ∨ (J.go i H ∧ ∃ Nx : Hp → Prop, (∀ H', Nx H' → ∃ m', m' < m ∧ W (i + 1) m' H') ∧ ∀ x H', J.yld i H x H' → keyTurn X.K σ vs g tt tk D Nx x H'))
    (over : ∀ H s, Inv (inBlk X s0 scope H0 fp) [] (L2.wipe σ vs) H s → Q (.ref D) H → R (.ok .next) s)
    {s : Shared} {H : Hp} (w0 : W 0 m0 H) (a0 : AtTurn X s0 H0 scope fp tn (L2.wipe σ vs) 0 H s) :
    codeAny (model X.prog X.w) X.A (.compLoop (.DictComp kx (.Constant (.bool true) tj tpos) [⟨tg, iter, ifs, 0⟩] scope pos) 0 (.ref it) (.ref D) (envBlk X s0 scope)) R s := by
  refine compLoop_anyD (fun m s => ∃ i H, AtTurn X s0 H0 scope fp tn (L2.wipe σ vs) i H s ∧ W i m H) ?_ m0 ⟨0, H, a0, w0⟩
  intro m s1 ⟨i, H1, a1, w1⟩
  cases turn i m H1 w1 with
  | inl z =>
    refine thnF (T.done (inBlk X s0 scope H0 fp) rfl rfl rfl hc i [] s1 _ H1 (fun _ _ => False) a1.inv (fun b => a1.free) a1.own z.1) ?_
    rintro r s2 ⟨rfl, I2⟩
    exact over H1 s2 I2 z.2
  | inr z =>
    obtain ⟨go, Nx, less, each⟩ := z
    refine thnF (T.item (inBlk X s0 scope H0 fp) rfl rfl rfl hc i [] s1 _ H1 (fun _ _ => False) a1.inv (fun b => a1.free) a1.own go) ?_
    rintro r s2 ⟨u, rfl, hu2⟩
    refine thnF hu2 ?_
    rintro _ s3 ⟨x, H3, I3, rx, hx, t3, n3⟩
    have a3 : AtTurn X s0 H0 scope fp tn (L2.wipe σ vs) (i + 1) H3 s3 := ⟨I3, t3, n3⟩
    have done : ∀ {σ4 : L2.St} {s5 : Shared} {H5 : Hp}, L2.wipe σ4 vs = L2.wipe σ vs → Inv (inBlk X s0 scope H0 fp) ([] ++ pinsAt fp s3.heap) σ4 H5 s5 → Nx H5 →
        ∃ m', m' < m ∧ ∃ i H, AtTurn X s0 H0 scope fp tn (L2.wipe σ vs) i H s5 ∧ W i m' H := by
      intro σ4 s5 H5 e I5 nx
      obtain ⟨m', lt, w⟩ := less H5 nx
      exact ⟨m', lt, i + 1, H5, AtTurn.next (τ := σ) T e t3 I5, w⟩
    refine thnF (pg.run _ s3 _ H3 x u _ (I3.pinned (fun b => a3.free) (T.obj _ _ t3)) rx (each x H3 hx)) ?_
    rintro _ s4 ⟨σ4, H4, I4, e4, q4⟩
    refine thnF (pt.run _ s4 σ4 H4 _ I4 q4) ?_
    rintro b s5 ⟨H5, I5, q5⟩
    rcases b with _ | _
    · exact done e4 I5 q5
    · refine thnF (pk.run _ s5 σ4 H5 _ I5 q5) ?_
      rintro kv s6 ⟨_, H6, I6, rk, ep, xs, p, k, rfl, hD, hks, hsz, hp, nx⟩
      cases rk
      exact Constant_bool (store_dct (X := inBlk X s0 scope H0 fp) hu I6 hD hks hsz hp fun ep7 s7 I7 => done e4 I7 (nx ep7))

end
section
variable {X : Cx} {kx tg iter : Expr} {ifs : List Expr} {scope : Scope} {own : List (Str × Nat)} {pos : Pos} {wi : TI} {g : TG} {tt : TT} {tk : TE} {tpos : Pos} {tj : Nat}

/-- the parts of such a comprehension, read -/
structure KeyParts (X : Cx) (kx tg iter : Expr) (ifs : List Expr) (scope : Scope) (own : List (Str × Nat)) (wi : TI) (g : TG) (tt : TT) (tk : TE) : Prop where
  line : X.A.units < cLine
  calm : X.calm = true
  nd : X.N.Nodup
  walk : PI X tg iter wi
  blk : BlkOk X.N X.env.scope scope own
  tgt : ∀ (s : Shared) (H : Hp) (fp : List Addr), PG (inBlk X s scope H fp) tg g
  test : ∀ (s : Shared) (H : Hp) (fp : List Addr), PTs (inBlk X s scope H fp) ifs tt
  key : ∀ (s : Shared) (H : Hp) (fp : List Addr), PE (inBlk X s scope H fp) kx tk
  plain : ∀ x, foldedSetIterable iter X.env x = pure x

theorem KeyParts.run (P : KeyParts X kx tg iter ifs scope own wi g tt tk) {pins : List (Addr × Obj)} {s : Shared} {σ : L2.St} {H : Hp} {Q : VK} {pos' : Pos} {use : Option (Value → Sem Unit)} {Qf : Value → Shared → Prop}
    (I : Inv X pins σ H s) (h : tDcT X.K wi g tt tk (own.map (·.2)) σ H Q)
    (hQ : ∀ D C s' m H', Inv X pins σ H' s' → Q (.ref D) H' → s'.heap.Ns C m → FpOk X pins H' C → compPost (model X.prog X.w) X.A X.xe use Qf (.ref D) C (.ok .next) s') :
    wpAny (model X.prog X.w) X.A (comprehension (.DictComp kx (.Constant (.bool true) tj tpos) [⟨tg, iter, ifs, 0⟩] scope pos) scope X.env pos' newDict false (eval iter X.env) use) Qf X.xe s := by
  have cells : ∀ y ∈ scope.names, y.2 = .free → ∃ c, X.env.cells.lookup y.1 = some c := by
    intro y hy e
    cases P.blk.free y hy e with
    | inl z => exact I.ok.has _ (.inl z)
    | inr z => exact I.ok.has _ (.inr z)
  have locs : ∀ y ∈ scope.names, y.2 = .local → scope.names.lookup y.1 = some .local := fun y hy e => (P.blk.uniq y hy).trans (congrArg some e)
  refine wpAny_comprehension_free (use := use) rfl P.plain (closure_ok cells) P.blk.kind locs ?_
  refine thn (P.walk.run pins s σ H _ I h) ?_
  intro x s1 h1
  refine thn h1 ?_
  rintro _ s2 ⟨it, fp, tn, J, H2, rfl, I2, T, t2, f2, h2⟩
  -- the dict
  refine wpAny_newObj_type ?_
  obtain ⟨W, ⟨m0, w0⟩, turn⟩ := h2 s2.heap.objs.size (I2.hok.fresh (Nat.le_refl _))
  have I3 : Inv X pins σ (upd H2 s2.heap.objs.size (dctO s2.heap.objs.size 0 [])) { s2 with heap := s2.heap.push { cls := .type "dict", data := .dict #[] } } :=
    I2.laid (t' := s2.toks) (fun b o e => Heap.get?_push_of_some _ e) (Nat.le_refl _)
      (dct_new s2.heap I2.big)
  have f3 : ∀ b ∈ fp, FpOk X pins (upd H2 s2.heap.objs.size (dctO s2.heap.objs.size 0 [])) b ∧ b < (s2.heap.push { cls := .type "dict", data := .dict #[] }).objs.size := by
    intro b hb
    obtain ⟨o, hbo, -⟩ := T.obj _ _ t2 b hb
    have lt : b < s2.heap.objs.size := Heap.lt_size hbo
    refine ⟨⟨(upd_ne (Nat.ne_of_lt lt)).trans (f2 b hb).1, (f2 b hb).2⟩, ?_⟩
    rw [Heap.size_push]
    exact Nat.lt_succ_of_lt lt
  have t3 : tn 0 (s2.heap.push { cls := .type "dict", data := .dict #[] }) := T.keep _ _ _ t2 fun b _ o e => Heap.get?_push_of_some _ e
  -- the block
  refine newEnv_comp ?_
  have t4 := T.keep _ _ (pushCells (((s2.heap.push { cls := .type "dict", data := .dict #[] })).push { cls := .type "dict", data := .dict #[] }) scope.names) t3 fun b _ o e => pushCells_keeps _ _ _ _ (Heap.get?_push_of_some _ e)
  have loop := keyLoop (σ := σ) (vs := own.map (·.2)) (pos := pos) (tpos := tpos) (tj := tj) (R := compPost (model X.prog X.w) X.A X.xe use Qf (.ref s2.heap.objs.size) (s2.heap.push { cls := .type "dict", data := .dict #[] }).objs.size) (iter := iter)
    P.line P.calm T (P.tgt _ _ fp) (P.test _ _ fp) (P.key _ _ fp) turn
    (fun H5 s5 I5 q => by
      obtain ⟨I6, f6, m, hm⟩ := AtTurn.leave I3 (fun b hb => (f3 b hb).1) I5
      exact hQ _ _ s5 m H5 I6 q hm f6)
    w0 ⟨block_start I3 P.blk P.nd f3, t4, fun b hb => (f3 b hb).1.1⟩
  exact codeAny_compStart_dict loop (T.self X.A 0 _ _ _ t4 loop)

theorem KeyParts.of (hu : X.A.units < cLine) (hc : X.calm = true) (hN : X.N.Nodup) (hi : PI X tg iter wi) (ok : BlkOk X.N X.env.scope scope own)
    (hg : ∀ (s : Shared) (H : Hp) (C : Addr) (cl : List (Str × Addr)) (fp : List Addr), PG (X.blk s H scope (compEnvC scope cl C X.env) fp) tg g) (ht : ∀ (s : Shared) (H : Hp) (C : Addr) (cl : List (Str × Addr)) (fp : List Addr), PTs (X.blk s H scope (compEnvC scope cl C X.env) fp) ifs tt)
    (hk : ∀ (s : Shared) (H : Hp) (C : Addr) (cl : List (Str × Addr)) (fp : List Addr), PE (X.blk s H scope (compEnvC scope cl C X.env) fp) kx tk)
    (hs : ∀ x, foldedSetIterable iter X.env x = pure x) : KeyParts X kx tg iter ifs scope own wi g tt tk :=
  ⟨hu, hc, hN, hi, ok, fun s H fp => hg s H _ _ fp, fun s H fp => ht s H _ _ fp, fun s H fp => hk s H _ _ fp, hs⟩

/-- the block's frame is dropped -/
theorem FpOk_drop {pins : List (Addr × Obj)} {σ : L2.St} {H : Hp} {s : Shared} {C : Addr} (f : FpOk X pins H C) (I : Inv X pins σ H s) {h' : Heap} (k : ∀ b o, b ≠ C → s.heap.get? b = some o → h'.get? b = some o) : Inv X pins σ H { s with heap := h' } :=
  I.turned (t' := s.toks) k f.1 f.2.1 f.2.2.2.1 f.2.2.2.2.1 f.2.2.2.2.2

theorem pe_dcT (hu : X.A.units < cLine) (hc : X.calm = true) (hN : X.N.Nodup) (hi : PI X tg iter wi) (ok : BlkOk X.N X.env.scope scope own)
    (hg : ∀ (s : Shared) (H : Hp) (C : Addr) (cl : List (Str × Addr)) (fp : List Addr), PG (X.blk s H scope (compEnvC scope cl C X.env) fp) tg g) (ht : ∀ (s : Shared) (H : Hp) (C : Addr) (cl : List (Str × Addr)) (fp : List Addr), PTs (X.blk s H scope (compEnvC scope cl C X.env) fp) ifs tt)
    (hk : ∀ (s : Shared) (H : Hp) (C : Addr) (cl : List (Str × Addr)) (fp : List Addr), PE (X.blk s H scope (compEnvC scope cl C X.env) fp) kx tk)
    (hs : ∀ x, foldedSetIterable iter X.env x = pure x := by intro _; rfl) :
    PE X (.DictComp kx (.Constant (.bool true) tj tpos) [⟨tg, iter, ifs, 0⟩] scope pos) (tDcT X.K wi g tt tk (own.map (·.2))) := by
  constructor
  intro pins s σ H Q I h
  rw [arm_eval_DictComp]
  refine (KeyParts.of hu hc hN hi ok hg ht hk hs).run I h ?_
  intro D C s' m H' I' q hm f
  refine ⟨m, hm, fun h2 sb => ⟨.ref D, H', FpOk_drop f I' ?_, rfl, q⟩⟩
  intro b o hb e
  rw [← e]
  exact sb.2 b hb

theorem ps_setDcT {i : Nat} {y : Str} {py spos : Pos} (hu : X.A.units < cLine) (hc : X.calm = true) (hN : X.N.Nodup) (hy : X.N[i]? = some y) (hyl : X.env.scope.names.lookup y = some .local)
    (hsw : swapsWith (.DictComp kx (.Constant (.bool true) tj tpos) [⟨tg, iter, ifs, 0⟩] scope pos) (some (.Name y py)) spos.line X.env = pure true) (hi : PI X tg iter wi) (ok : BlkOk X.N X.env.scope scope own)
    (hg : ∀ (s : Shared) (H : Hp) (C : Addr) (cl : List (Str × Addr)) (fp : List Addr), PG (X.blk s H scope (compEnvC scope cl C X.env) fp) tg g) (ht : ∀ (s : Shared) (H : Hp) (C : Addr) (cl : List (Str × Addr)) (fp : List Addr), PTs (X.blk s H scope (compEnvC scope cl C X.env) fp) ifs tt)
    (hk : ∀ (s : Shared) (H : Hp) (C : Addr) (cl : List (Str × Addr)) (fp : List Addr), PE (X.blk s H scope (compEnvC scope cl C X.env) fp) kx tk)
    (hs : ∀ x, foldedSetIterable iter X.env x = pure x := by intro _; rfl) :
    PS X (.Assign [.Name y py] (.DictComp kx (.Constant (.bool true) tj tpos) [⟨tg, iter, ifs, 0⟩] scope pos) spos) (tAsg (tDcT X.K wi g tt tk (own.map (·.2))) (gName i)) := by
  constructor
  intro pins s σ H D I h
  rw [exec_Assign_Name_used _ _ _ _ hsw]
  refine wpAny_bind (wpAny_standAt (wpAny_bind (wpAny_bind ?_)))
  have P := KeyParts.of hu hc hN hi ok hg ht hk hs
  refine thn (P.run (pos := pos) (tpos := tpos) (tj := tj) (pos' := firstIterPos [⟨tg, iter, ifs, 0⟩] pos) (use := some (assign (.Name y py) X.env)) (Q := fun x H1 => gName i x σ H1 D.nx) (Qf := fun _ s' => SP X pins D .next s') I h ?_) fun _ _ z => wpAny_pure (wpAny_pure z)
  intro L C s' m H' I' q hm f
  refine wpAny_assign_Name (store_ok2 (v := V.ref L) I' hN hy (.inl hyl) rfl ?_ (.inr hyl))
  rintro s2 I2 ⟨a, sb, ha⟩
  have ne : C ≠ a := by
    cases ha with
    | inl z => exact z ▸ f.2.1
    | inr z => exact Ne.symm (f.2.2.2.2.1 y a z)
  refine ⟨m, hm.sameBut sb ne, fun h3 sb3 => ⟨_, H', FpOk_drop f I2 ?_, q⟩⟩
  intro b o hb e
  rw [← e]
  exact sb3.2 b hb
end
end PD

set_option Elab.async false
set_option linter.all false
set_option maxRecDepth 100000
set_option maxHeartbeats 1000000
namespace PD
open PySem PySem.Spec PyProof.Rows L2

def dcGo (t : Tg) (ft : DnB) (fk : Dn) (ρ : Rho) : List PyData → List (List Int) → R (List (List Int))
  | [], acc => .ok acc
  | d :: ds, acc => match t.set d ρ with
    | some ρ1 => nx (ft ρ1) fun b => if b = true then nx (fk ρ1) fun y => (match asTu y with
        | some k => dcGo t ft fk ρ ds (if k ∈ acc then acc else acc ++ [k])
        | none => .bad) else dcGo t ft fk ρ ds acc
    | none => .bad
def keyD (k : List Int) : PyData × PyData := (.tuple (k.map .int), .bool true)
def dDc (fi : DnL) (t : Tg) (ft : DnB) (fk : Dn) (vs : List Nat) : Dn := fun ρ => fi ρ >>= fun ds => nx (dcGo t ft fk (wipeR ρ vs) ds []) fun ks => .ok (.dict (ks.map keyD))
theorem putT_keys (xs : List (List Int × Addr)) (k : List Int) (b : Addr) : (putT xs k b).map (·.1) = if k ∈ xs.map (·.1) then xs.map (·.1) else xs.map (·.1) ++ [k] := by
  unfold putT
  split
  · rfl
  · rw [List.map_append]; rfl
section
variable {K : PySem.W.Frag} {Tb : List Addr} {H0 H H1 : Hp} {O0 O : List Addr} {ρ : Rho} {σ : L2.St} {D p : Addr}
/-- an object of the ext kind that no heap of code objects alone makes true -/
def codeHeap (n : Nat) (q : Str) : Heap := { objs := Array.replicate n { cls := .none, data := .fields #[.none, .str q 0] } }
theorem codeHeap_get {n : Nat} {q : Str} {a : Addr} {o : Obj} (h : (codeHeap n q).get? a = some o) : o.data = .fields #[.none, .str q 0] := by
  unfold codeHeap Heap.get? at h
  dsimp only at h
  rw [Array.getElem?_replicate] at h
  by_cases z : a < n
  · rw [if_pos z] at h
    cases h
    rfl
  · rw [if_neg z] at h
    cases h
theorem plain_ext {φ : Heap → Prop} (h : ∀ n q, ¬ φ (codeHeap n q)) : Plain (HO.ext φ) := ⟨fun c q e => by
  unfold LamX.CodeO at e
  injection e with e
  have z := congrFun e (codeHeap (c + 1) q)
  refine h (c + 1) q (z.symm ▸ ⟨{ cls := .none, data := .fields #[.none, .str q 0] }, #[.none, .str q 0], 0, ?_, rfl, rfl⟩)
  unfold Heap.get? codeHeap
  simp, fun _ e => by cases e⟩
theorem plain_dct (a : Addr) (ep : Nat) (xs : List (List Int × Addr)) : Plain (dctO a ep xs) := plain_ext fun n q ⟨_, _, _, o, es, h1, _, h3, _⟩ => by
  rw [codeHeap_get h1] at h3
  cases h3
/-- the hidden object at D, which no slot owns, is changed; any object but a table -/
theorem St0.hidO {o o' : HO} (st : St0 K Tb H0 O0 O H σ ρ) (m : D ∈ O) (m0 : D ∉ O0) (hD : H D = some o) (po : Plain o) (pn : Plain o') (hs : ∀ (i : Nat) (s : Sl), s.Hold → ρ[i]? = some (some s) → σ[i]? ≠ some (some (.ref D))) (hxd : ∀ fs, o ≠ .xd fs := by intro _ z; cases z) : St0 K Tb H0 O0 O (upd H D o') σ ρ where
  ext := st.ext.updN (st.new D m m0) fun c q z => po.1 c q (Option.some.inj (hD.symm.trans z))
  sub := st.sub
  new := st.new
  al := fun b h => by
    by_cases hb : b = D
    · rw [hb, upd_same]; simp
    · rw [upd_ne hb]; exact st.al b h
  tab := fun P mp => by
    have hb : P ≠ D := tabG_ne (st.tab P mp) fun ps q => by rw [hD] at q; exact po.2 ps (Option.some.inj q)
    exact (st.tab P mp).mono (fun ps h => by rw [upd_ne hb]; exact h) fun c q h => by
      rw [upd_ne fun z => po.1 c q (Option.some.inj (hD.symm.trans (by rw [← z]; exact h)))]
      exact h
  pln := fun b mb nb => by
    by_cases hb : b = D
    · exact ⟨_, by rw [hb]; exact upd_same, pn⟩
    · obtain ⟨x, h, q⟩ := st.pln b mb nb
      exact ⟨x, by rw [upd_ne hb]; exact h, q⟩
  len := st.len
  slot := fun i x h => by
    obtain ⟨v, h1, h2⟩ := st.slot i x h
    refine ⟨v, h1, h2.mv (by rw [hide_upd m]; exact fun _ _ h _ => h) (fun hx p ev mp _ => ⟨mp, fun o hp _ => ?_⟩) fun dd fs h => ?_⟩
    · have hne : p ≠ D := fun e => hs i x hx h (by rw [h1, ev, e])
      rw [upd_ne hne]; exact hp
    · rw [upd_ne (fun e => by rw [e, hD] at h; exact hxd fs (Option.some.inj h))]; exact h
  inj := st.inj
end
section
variable {X : Cx} {Tb : List Addr} {W : WX}
theorem dc_walk {K : PySem.W.Frag} {t : Tg} {ft : DnB} {fk : Dn} {fi : DnL} {vs : List Nat} {σ : L2.St} {H : Hp} {Q : VK} (hv : ∀ i ∈ t.ixs, i ∈ vs) (h : tD K Tb W (dDc fi t ft fk vs) σ H Q) :
    tDcT K (tI K Tb W fi) (tG K Tb t) (tDT K Tb W0 ft) (tD K Tb W0 fk) vs σ H Q := by
  obtain ⟨H0, O0, O, ρ, st, h⟩ := h
  refine ⟨H0, O0, O, ρ, st, Post.then h fun ds J H1 e it k => ?_⟩
  cases q : dcGo t ft fk (wipeR ρ vs) ds [] with
  | exc x => rw [q] at k; exact k.elim
  | bad => rw [q] at k; exact k.elim
  | ok ks =>
    rw [q] at k
    have st1 := st.step e
    intro D nD
    have aD : D ∉ O := st1.fresh nD
    have stw := (st1.wiped vs).more (o := dctO D 0 []) nD (plain_dct D 0 [])
    have aD0 : D ∉ O0 := fun m => aD (st1.sub D m)
    have own : ∀ (i : Nat) (s : Sl), s.Hold → (wipeR ρ vs)[i]? = some (some s) → (L2.wipe σ vs)[i]? ≠ some (some (.ref D)) := fun i s hs h1 h2 => aD ((st1.wiped vs).hold hs h1 h2).1
    have nO : ∀ b ∈ D :: O, hide O H1 b = none := fun b hb => by
      rcases List.mem_cons.mp hb with rfl | hb
      · exact hide_none nD
      · exact hide_in hb
    refine ⟨fun i m H' => i ≤ ds.length ∧ m = ds.length - i ∧ ∃ ep xs, St0 K Tb H0 O0 (D :: O) H' (L2.wipe σ vs) (wipeR ρ vs) ∧ Ext H1 H' ∧ H' D = some (dctO D ep xs) ∧ (∀ x ∈ xs, SqT K (hide (D :: O) H') x.2 (x.1.map V.int)) ∧ xs.length ≤ i ∧ dcGo t ft fk (wipeR ρ vs) (ds.drop i) (xs.map (·.1)) = .ok ks,
      ⟨ds.length, Nat.zero_le _, by simp, 0, [], stw, Ext.new nD, upd_same, by simp, Nat.le_refl _, q⟩, ?_⟩
    rintro i m H' ⟨hi, rfl, ep, xs, s1, e1, hD, hk, la, go⟩
    have eG : Ext (hide O H1) H' := Ext.unhide.trans e1
    by_cases hlt : i < ds.length
    · refine .inr ⟨it.go i H' eG hlt, fun H2 => i + 1 ≤ ds.length ∧ ∃ ep xs, St0 K Tb H0 O0 (D :: O) H2 (L2.wipe σ vs) (wipeR ρ vs) ∧ Ext H1 H2 ∧ H2 D = some (dctO D ep xs) ∧ (∀ x ∈ xs, SqT K (hide (D :: O) H2) x.2 (x.1.map V.int)) ∧ xs.length ≤ i + 1 ∧ dcGo t ft fk (wipeR ρ vs) (ds.drop (i + 1)) (xs.map (·.1)) = .ok ks,
        fun H2 q => ⟨ds.length - (i + 1), by omega, q.1, rfl, q.2⟩, fun x H2 y => ?_⟩
      obtain ⟨e2, d, hd, rx⟩ := it.yld i H' (D :: O) x H2 eG nO s1.al hlt y
      have hdr : ds.drop i = d :: ds.drop (i + 1) := by
        obtain ⟨hl, hd'⟩ := List.getElem?_eq_some_iff.mp hd
        rw [List.drop_eq_getElem_cons hl, hd']
      rw [hdr] at go
      unfold dcGo at go
      cases et : t.set d (wipeR ρ vs) with
      | none => rw [et] at go; cases go
      | some ρ1 =>
        rw [et] at go
        obtain ⟨b, eb, go⟩ := nx_ok go
        have s2 := s1.step e2
        refine ⟨H0, O0, D :: O, wipeR ρ vs, ρ1, d, s2, rx, et, fun σ' st' ag => ⟨(ag.wipe hv).trans wipe_wipe, H0, O0, D :: O, ρ1, st', ?_⟩⟩
        rw [eb]
        intro b' H3 e3 r3
        cases (show b' = b from r3)
        have s3 := st'.step e3
        cases b with
        | false =>
          exact ⟨hlt, ep, xs, s2.step e3, (e1.trans e2).trans e3, (e2.trans e3).keep D _ hD (fun _ q => by cases q), fun x hx => (Sub.hide (e2.trans e3).keep).sqT (hk x hx), Nat.le_succ_of_le la, go⟩
        | true =>
          obtain ⟨yd, ey1, go⟩ := nx_ok go
          refine ⟨H0, O0, D :: O, ρ1, s3, ?_⟩
          rw [ey1]
          intro y H4 e4 r4
          cases ek : asTu yd with
          | none =>
            have go : (match asTu yd with | some k => dcGo t ft fk (wipeR ρ vs) (ds.drop (i + 1)) (if k ∈ xs.map Prod.fst then xs.map Prod.fst else xs.map Prod.fst ++ [k]) | none => R.bad) = .ok ks := go
            rw [ek] at go; cases go
          | some key =>
            have go : (match asTu yd with | some k => dcGo t ft fk (wipeR ρ vs) (ds.drop (i + 1)) (if k ∈ xs.map Prod.fst then xs.map Prod.fst else xs.map Prod.fst ++ [k]) | none => R.bad) = .ok ks := go
            rw [ek] at go
            obtain ⟨p, rfl, hp⟩ := asTu_rp r4 ek
            have e24 := (e2.trans e3).trans e4
            have hD4 := e24.keep D _ hD (fun _ q => by cases q)
            have s4 := (s2.step e3).step e4
            have hk4 : ∀ x ∈ xs, SqT K (hide (D :: O) H4) x.2 (x.1.map V.int) := fun x hx => (Sub.hide e24.keep).sqT (hk x hx)
            have zl : xs.length < sizeLine := by have := it.len; omega
            refine ⟨ep, xs, p, key, rfl, hD4, fun x hx => Sub.unhide.sqT (hk4 x hx), zl, Sub.unhide.sqT hp, fun ep' => ⟨hlt, ep', putT xs key p, s4.hidO List.mem_cons_self aD0 hD4 (plain_dct D _ _) (plain_dct D _ _) own, (e1.trans e24).updN nD (fun c q z => (plain_dct D _ _).1 c q (Option.some.inj (hD4.symm.trans z))), upd_same, fun x hx => ?_, by have := putT_len xs key p; omega, ?_⟩⟩
            · rw [hide_upd List.mem_cons_self]
              rcases putT_mem hx with hx | rfl
              · exact hk4 x hx
              · exact hp
            · rw [putT_keys]; exact go
    · have ei : i = ds.length := by omega
      subst ei
      refine .inl ⟨it.stop H' eG, ?_⟩
      rw [List.drop_length] at go
      cases go
      have e5 : (xs.map (·.1)).map keyD = xs.map dctE := by rw [List.map_map]; rfl
      refine k _ H' e1 ?_
      show Rp K (hide O H') (.ref D) (.dict ((xs.map (·.1)).map keyD))
      rw [e5]
      exact .dct (by rw [hide_out aD]; exact hD) fun x hx => (Sub.less fun b hb => List.mem_cons_of_mem _ hb).sqT (hk x hx)
/-- {key: True for t in i if c} -/
theorem fd_dc {kx tg iter : Expr} {ifs : List Expr} {scope : Scope} {own : List (Str × Nat)} {pos tpos : Pos} {tj k : Nat} {fi : DnL} {t : Tg} {ft : DnB} {fk : Dn} (hr : Room k X.A) (hc : X.calm = true) (hN : X.N.Nodup) (hi : PI X tg iter (tI X.K Tb W fi)) (ok : BlkOk X.N X.env.scope scope own)
    (hg : ∀ (s : Shared) (H : Hp) (C : Addr) (cl : List (Str × Addr)) (fp : List Addr), PG (X.blk s H scope (compEnvC scope cl C X.env) fp) tg (tG X.K Tb t))
    (ht : ∀ (s : Shared) (H : Hp) (C : Addr) (cl : List (Str × Addr)) (fp : List Addr), PTs (X.blk s H scope (compEnvC scope cl C X.env) fp) ifs (tDT X.K Tb W0 ft))
    (hk : ∀ (s : Shared) (H : Hp) (C : Addr) (cl : List (Str × Addr)) (fp : List Addr), PE (X.blk s H scope (compEnvC scope cl C X.env) fp) kx (tD X.K Tb W0 fk))
    (hv : ∀ i ∈ t.ixs, i ∈ own.map (·.2) := by decide) (hs : ∀ x, foldedSetIterable iter X.env x = pure x := by intro _; rfl) : PE X (.DictComp kx (.Constant (.bool true) tj tpos) [⟨tg, iter, ifs, 0⟩] scope pos) (tD X.K Tb W (dDc fi t ft fk (own.map (·.2)))) :=
  (pe_dcT (Nat.lt_of_le_of_lt (Nat.le_add_right _ _) hr.u64) hc hN hi ok hg ht hk hs).by fun σ H Q h => dc_walk hv h
/-- name = {key: True for ..} on one line -/
theorem fs_setDc {i : Nat} {y : Str} {py : Pos} {kx tg iter : Expr} {ifs : List Expr} {scope : Scope} {own : List (Str × Nat)} {pos spos tpos : Pos} {tj k : Nat} {fi : DnL} {t : Tg} {ft : DnB} {fk : Dn} (hr : Room k X.A) (hc : X.calm = true) (hN : X.N.Nodup) (hy : X.N[i]? = some y) (hyl : X.env.scope.names.lookup y = some .local)
    (hsw : swapsWith (.DictComp kx (.Constant (.bool true) tj tpos) [⟨tg, iter, ifs, 0⟩] scope pos) (some (.Name y py)) spos.line X.env = pure true) (hi : PI X tg iter (tI X.K Tb W fi)) (ok : BlkOk X.N X.env.scope scope own)
    (hg : ∀ (s : Shared) (H : Hp) (C : Addr) (cl : List (Str × Addr)) (fp : List Addr), PG (X.blk s H scope (compEnvC scope cl C X.env) fp) tg (tG X.K Tb t))
    (ht : ∀ (s : Shared) (H : Hp) (C : Addr) (cl : List (Str × Addr)) (fp : List Addr), PTs (X.blk s H scope (compEnvC scope cl C X.env) fp) ifs (tDT X.K Tb W0 ft))
    (hk : ∀ (s : Shared) (H : Hp) (C : Addr) (cl : List (Str × Addr)) (fp : List Addr), PE (X.blk s H scope (compEnvC scope cl C X.env) fp) kx (tD X.K Tb W0 fk))
    (hv : ∀ i ∈ t.ixs, i ∈ own.map (·.2) := by decide) (hs : ∀ x, foldedSetIterable iter X.env x = pure x := by intro _; rfl) :
    PS X (.Assign [.Name y py] (.DictComp kx (.Constant (.bool true) tj tpos) [⟨tg, iter, ifs, 0⟩] scope pos) spos) (tS X.K Tb W (gSet (dDc fi t ft fk (own.map (·.2))) (.nm i))) :=
  (ps_setDcT (Nat.lt_of_le_of_lt (Nat.le_add_right _ _) hr.u64) hc hN hy hyl hsw hi ok hg ht hk hs).by fun D σ H ⟨H0, O0, O, ρ, st, h⟩ => by
    refine dc_walk (W := W) (Q := fun x H1 => gName i x σ H1 D.nx) hv ⟨H0, O0, O, ρ, st, oR_post st h fun d v H1 e r k => ?_⟩
    have k : PostS X.K Tb W H0 O0 (oO (Tg.set (.nm i) d ρ)) D := k
    rw [show Tg.set (.nm i) d ρ = some (ρ.set i (some (.d d))) by rw [Tg.set]] at k
    exact k O _ H1 ((st.step e).set r)
variable {a : Expr} {f : Dn} {pos : Pos}
theorem ft_isN {j pos'} (ha : PE X a (tD X.K Tb W f)) : PT X (.Compare a [.Is] [.Constant .none j pos'] pos) (tDT X.K Tb W (dAsB (dOne (fun d => .ok (.bool (isNone d))) f))) := (pt_cmp (pc_isN ha) rfl).by fun σ H Q h => by
  obtain ⟨H0, O0, O, ρ, st, h⟩ := h
  refine ⟨H0, O0, O, ρ, st, Post.then (f := fun d => R.ok (isNone d)) (Rl' := RlB) (Q' := Q) ?_ fun d v H1 e r k => ?_⟩
  · have e : (f ρ >>= fun d => R.ok (isNone d)) = dAsB (dOne (fun d => .ok (.bool (isNone d))) f) ρ := by
      show _ = ((f ρ >>= fun d => R.ok (PyData.bool (isNone d))) >>= asB)
      cases f ρ <;> rfl
    rw [e]; exact h
  · have : decide (v = .non) = isNone d := by cases r <;> simp [isNone]
    rw [this]
    exact ⟨_, rfl, k _ H1 (Ext.refl _) rfl⟩
theorem ft_notN {j pos'} (ha : PE X a (tD X.K Tb W f)) : PT X (.Compare a [.IsNot] [.Constant .none j pos'] pos) (tDT X.K Tb W (dAsB (dOne (fun d => .ok (.bool (!isNone d))) f))) := (pt_cmp (pc_notN ha) rfl).by fun σ H Q h => by
  obtain ⟨H0, O0, O, ρ, st, h⟩ := h
  refine ⟨H0, O0, O, ρ, st, Post.then (f := fun d => R.ok (!isNone d)) (Rl' := RlB) (Q' := Q) ?_ fun d v H1 e r k => ?_⟩
  · have e : (f ρ >>= fun d => R.ok (!isNone d)) = dAsB (dOne (fun d => .ok (.bool (!isNone d))) f) ρ := by
      show _ = ((f ρ >>= fun d => R.ok (PyData.bool (!isNone d))) >>= asB)
      cases f ρ <;> rfl
    rw [e]; exact h
  · have : decide (v = .non) = isNone d := by cases r <;> simp [isNone]
    rw [this]
    exact ⟨_, rfl, k _ H1 (Ext.refl _) rfl⟩
end
end PD

set_option Elab.async false
set_option linter.all false
set_option maxRecDepth 100000
set_option maxHeartbeats 1000000
namespace PD
open PySem PySem.Spec PyProof.Rows L2

/-! ### `x is True`, `x is not True`: both sides bools -/
def oIs : PyData → PyData → R PyData
  | .bool a, .bool b => .ok (.bool (a == b))
  | _, _ => .bad
def oIsNot : PyData → PyData → R PyData
  | .bool a, .bool b => .ok (.bool (!(a == b)))
  | _, _ => .bad
/-- two bools -/
def rBB (f : Bool → Bool → Bool) : R2 := fun x y H Q => ∃ a b, x = .bl a ∧ y = .bl b ∧ Q (.bl (f a b)) H
section
variable {X : Cx} {K : PySem.W.Frag}
theorem op_isB : OpR X (compareOp .Is) (rBB fun a b => a == b) := by
  rintro pins s σ H _ _ v u Q I rx ry ⟨a, b, rfl, rfl, q⟩
  cases rx; cases ry
  refine wpAny_is_plain rfl ⟨.bl (a == b), H, I, ?_, q⟩
  cases a <;> cases b <;> rfl
theorem op_notB : OpR X (compareOp .IsNot) (rBB fun a b => !(a == b)) := by
  rintro pins s σ H _ _ v u Q I rx ry ⟨a, b, rfl, rfl, q⟩
  cases rx; cases ry
  refine wpAny_isNot_plain rfl ⟨.bl (!(a == b)), H, I, ?_, q⟩
  cases a <;> cases b <;> rfl
theorem ok_bb {f : Bool → Bool → Bool} {u : PyData → PyData → R PyData} (hu : ∀ d e, (∃ a b, d = .bool a ∧ e = .bool b ∧ u d e = .ok (.bool (f a b))) ∨ u d e = .bad) : Ok2 K (rBB f) u := by
  intro O H Wx x y d e Q al hx hy h
  rcases hu d e with ⟨a, b, rfl, rfl, z⟩ | z
  · rw [z] at h
    cases hx; cases hy
    exact ⟨a, b, rfl, rfl, Post.here h (.bl _)⟩
  · rw [z] at h
    exact h.elim
theorem ok_is : Ok2 K (rBB fun a b => a == b) oIs := ok_bb fun d e => by
  unfold oIs
  split
  · exact .inl ⟨_, _, rfl, rfl, rfl⟩
  · exact .inr rfl
theorem ok_isNot : Ok2 K (rBB fun a b => !(a == b)) oIsNot := ok_bb fun d e => by
  unfold oIsNot
  split
  · exact .inl ⟨_, _, rfl, rfl, rfl⟩
  · exact .inr rfl
variable {Tb : Nat → Prop} {a b : Expr} {f g : Dn} {pos : Pos}
end
section
variable {X : Cx} {a b : Expr} {f g : Dn} {pos : Pos}
theorem e_isB (ha : PE X a (tD X.K Tb W f)) (hb : PE X b (tD X.K Tb W g)) (hm : behindInMarks .Is b = false := by rfl) : PE X (.Compare a [.Is] [b] pos) (tD X.K Tb W (dTwo oIs f g)) := fd_cmp op_isB ok_is ha hb hm
theorem e_isntB (ha : PE X a (tD X.K Tb W f)) (hb : PE X b (tD X.K Tb W g)) (hm : behindInMarks .IsNot b = false := by rfl) : PE X (.Compare a [.IsNot] [b] pos) (tD X.K Tb W (dTwo oIsNot f g)) := fd_cmp op_notB ok_isNot ha hb hm
theorem t_isB (ha : PE X a (tD X.K Tb W f)) (hb : PE X b (tD X.K Tb W g)) (hm : behindInMarks .Is b = false := by rfl) : PT X (.Compare a [.Is] [b] pos) (tDT X.K Tb W (dAsB (dTwo oIs f g))) := ft_cmp op_isB ok_is ha hb hm
theorem t_isntB (ha : PE X a (tD X.K Tb W f)) (hb : PE X b (tD X.K Tb W g)) (hm : behindInMarks .IsNot b = false := by rfl) : PT X (.Compare a [.IsNot] [b] pos) (tDT X.K Tb W (dAsB (dTwo oIsNot f g))) := ft_cmp op_notB ok_isNot ha hb hm
end
end PD

set_option Elab.async false
set_option linter.all false
set_option maxRecDepth 100000
set_option maxHeartbeats 1000000
namespace PD
open PySem PySem.Spec PyProof.Rows L2

/-! ### tuples of ints, compared by their order -/
/-- the reading of the turns from place i on -/
theorem lexAt_drop (ns ms : List Int) : ∀ (k i : Nat), i + k = min ns.length ms.length →
    Ob.lexAt (fun j => decide (ns.getD j 0 = ms.getD j 0)) (fun j => decide (ns.getD j 0 ≤ ms.getD j 0)) (decide (ns.length ≤ ms.length)) i k = !(HT.lexLt (ms.drop i) (ns.drop i))
  | 0, i, h => by
    rw [Ob.lexAt_zero]
    by_cases z : ns.length ≤ ms.length
    · have : ns.drop i = [] := List.drop_eq_nil_of_le (by omega)
      rw [this, decide_eq_true z]
      cases ms.drop i <;> rfl
    · have e : ms.drop i = [] := List.drop_eq_nil_of_le (by omega)
      have l : i < ns.length := by omega
      rw [e, decide_eq_false z, List.drop_eq_getElem_cons l]
      rfl
  | k + 1, i, h => by
    have l1 : i < ns.length := by omega
    have l2 : i < ms.length := by omega
    have g1 : ns.getD i 0 = ns[i] := by simp [List.getD, l1]
    have g2 : ms.getD i 0 = ms[i] := by simp [List.getD, l2]
    rw [Ob.lexAt_succ, lexAt_drop ns ms k (i + 1) (by omega), List.drop_eq_getElem_cons l1, List.drop_eq_getElem_cons l2, HT.lexLt_cons, g1, g2]
    by_cases e : ns[i] = ms[i]
    · rw [if_pos e.symm]
      simp [e]
    · rw [if_neg (Ne.symm e)]
      simp only [e, decide_false, Bool.false_eq_true, if_false]
      by_cases z : ns[i] ≤ ms[i]
      · rw [decide_eq_true z, decide_eq_false (Int.not_lt.mpr z)]
        rfl
      · rw [decide_eq_false z, decide_eq_true (Int.not_le.mp z)]
        rfl
/-- t <= u: u does not come before t -/
def leT (ns ms : List Int) : Bool := !(HT.lexLt ms ns)
theorem lexAt_all (ns ms : List Int) : Ob.lexAt (fun j => decide (ns.getD j 0 = ms.getD j 0)) (fun j => decide (ns.getD j 0 ≤ ms.getD j 0)) (decide (ns.length ≤ ms.length)) 0 (min ns.length ms.length) = leT ns ms := by
  rw [lexAt_drop ns ms _ 0 (Nat.zero_add _)]
  rfl
def oLeT (d e : PyData) : R PyData := match asTu d, asTu e with
  | some k, some l => .ok (.bool (leT k l))
  | _, _ => .bad
def oLtT (d e : PyData) : R PyData := match asTu d, asTu e with
  | some k, some l => .ok (.bool (HT.lexLt k l))
  | _, _ => .bad
section
variable {K : PySem.W.Frag}
theorem ok_leT : Ok2 K (rLeT K) oLeT := by
  intro O H Wx x y d e Q al hx hy h
  unfold oLeT at h
  split at h
  · rename_i k l hk hl
    obtain ⟨a, rfl, ha⟩ := asTu_rp hx hk
    obtain ⟨b, rfl, hb⟩ := asTu_rp hy hl
    refine ⟨a, b, k, l, rfl, rfl, Sub.unhide.sqT ha, Sub.unhide.sqT hb, ?_⟩
    rw [lexAt_all]
    exact Post.here h (.bl _)
  · exact h.elim
theorem ok_ltT : Ok2 K (rLtT K) oLtT := by
  intro O H Wx x y d e Q al hx hy h
  unfold oLtT at h
  split at h
  · rename_i k l hk hl
    obtain ⟨a, rfl, ha⟩ := asTu_rp hx hk
    obtain ⟨b, rfl, hb⟩ := asTu_rp hy hl
    exact ⟨a, b, k, l, rfl, rfl, Sub.unhide.sqT ha, Sub.unhide.sqT hb, Post.here h (.bl _)⟩
  · exact h.elim
end
theorem _root_.L2.Room.u0 {k : Nat} {A : Around} (r : Room k A) : A.units < cLine := Nat.lt_of_le_of_lt (Nat.le_add_right _ _) r.u64
section
variable {X : Cx} {Tb : List Addr} {W : WX} {a b : Expr} {f g : Dn} {pos : Pos} {k : Nat}
theorem e_leT (hr : Room k X.A) (ha : PE X a (tD X.K Tb W f)) (hb : PE X b (tD X.K Tb W g)) (hm : behindInMarks .LtE b = false := by rfl) : PE X (.Compare a [.LtE] [b] pos) (tD X.K Tb W (dTwo oLeT f g)) := fd_cmp (op_leT hr.u0) ok_leT ha hb hm
theorem t_leT (hr : Room k X.A) (ha : PE X a (tD X.K Tb W f)) (hb : PE X b (tD X.K Tb W g)) (hm : behindInMarks .LtE b = false := by rfl) : PT X (.Compare a [.LtE] [b] pos) (tDT X.K Tb W (dAsB (dTwo oLeT f g))) := ft_cmp (op_leT hr.u0) ok_leT ha hb hm
theorem e_ltT (hr : Room k X.A) (ha : PE X a (tD X.K Tb W f)) (hb : PE X b (tD X.K Tb W g)) (hm : behindInMarks .Lt b = false := by rfl) : PE X (.Compare a [.Lt] [b] pos) (tD X.K Tb W (dTwo oLtT f g)) := fd_cmp (op_ltT hr.u0) ok_ltT ha hb hm
theorem t_ltT (hr : Room k X.A) (ha : PE X a (tD X.K Tb W f)) (hb : PE X b (tD X.K Tb W g)) (hm : behindInMarks .Lt b = false := by rfl) : PT X (.Compare a [.Lt] [b] pos) (tDT X.K Tb W (dAsB (dTwo oLtT f g))) := ft_cmp (op_ltT hr.u0) ok_ltT ha hb hm
/-- evaluated -/
theorem asTu_of (k : List Int) : asTu (.tuple (k.map .int)) = some k := by
  unfold asTu
  exact asInts_ints k
theorem oLeT_tu (k l : List Int) : oLeT (.tuple (k.map .int)) (.tuple (l.map .int)) = .ok (.bool (leT k l)) := by
  unfold oLeT
  rw [asTu_of, asTu_of]
theorem oLtT_tu (k l : List Int) : oLtT (.tuple (k.map .int)) (.tuple (l.map .int)) = .ok (.bool (HT.lexLt k l)) := by
  unfold oLtT
  rw [asTu_of, asTu_of]
end
end PD

set_option Elab.async false
set_option linter.all false
set_option maxRecDepth 100000
set_option maxHeartbeats 1000000
namespace PD
open PySem PySem.Spec PyProof.Rows L2

/-! ### enumerate and zip over lists and tuples alike -/
def SqX (K : PySem.W.Frag) (H : Hp) (tp : Bool) (a : Addr) (xs : List V) : Prop := match tp with
  | true => SqT K H a xs
  | false => SqL K H a xs
def ItX (h : Heap) (tp : Bool) (it a : Addr) (i : Nat) : Prop := match tp with
  | true => h.IsTupleIter it a i
  | false => h.IsListIter it a i
def PlX (h : Heap) (tp : Bool) (a : Addr) (its : Array Value) : Prop := match tp with
  | true => h.IsTuple a its
  | false => h.IsList a its
def itO (tp : Bool) (a : Addr) : Obj := match tp with
  | true => { cls := .type "tuple_iterator", data := .fields #[.ref a, .int 0 0] }
  | false => { cls := .type "list_iterator", data := .fields #[.ref a, .int 0 0] }
theorem drawsX {prog : Program} {w : World} {A : Around} (hh : A.handled = none) (tp : Bool) {it a : Addr} (ne : a ≠ it) (its : Array Value) :
    Draws prog w A it [it, a] its.size (fun i v => its[i]? = some v) (fun i h => ItX h tp it a i ∧ PlX h tp a its) := by
  cases tp with
  | true => exact Draws.tuple hh it a ne its
  | false => exact Draws.list hh it a ne its
theorem beginsX (tp : Bool) (a : Addr) (its : Array Value) : Begins (.ref a) (itO tp a) (fun h => PlX h tp a its) := by
  cases tp with
  | true => exact begins_tuple a its
  | false => exact begins_list a its
theorem itX_new {h : Heap} {tp : Bool} {it a : Addr} (e : h.get? it = some (itO tp a)) : ItX h tp it a 0 := by
  cases tp with
  | true => exact ⟨_, e, rfl, rfl⟩
  | false => exact ⟨_, e, rfl, rfl⟩
theorem ItX.obj {h : Heap} {tp : Bool} {it a : Addr} {i : Nat} (x : ItX h tp it a i) : ∃ o, h.get? it = some o ∧ ∀ v, o.data ≠ .cell v := by
  cases tp with
  | true =>
    obtain ⟨o, e, _, d⟩ := x
    exact ⟨o, e, fun v q => by rw [d] at q; cases q⟩
  | false =>
    obtain ⟨o, e, _, d⟩ := x
    exact ⟨o, e, fun v q => by rw [d] at q; cases q⟩
theorem ItX.at {h h' : Heap} {tp : Bool} {it a : Addr} {i : Nat} (x : ItX h tp it a i) (e : ∀ o, h.get? it = some o → h'.get? it = some o) : ItX h' tp it a i := by
  cases tp with
  | true => exact Heap.IsTupleIter.at x e
  | false => exact Heap.IsListIter.at x e
section
variable {X : Cx} {pins : List (Addr × Obj)} {σ : L2.St} {H : Hp} {s : Shared} {tp : Bool} {a : Addr} {xs ys : List V}
theorem sqX_read (I : Inv X pins σ H s) (h : SqX X.K H tp a xs) : ∃ its : List Value, Vals xs its ∧ PlX s.heap tp a its.toArray := by
  cases tp with
  | true =>
    obtain ⟨its, rv, p, _⟩ := I.tuple h
    exact ⟨its, rv, p⟩
  | false =>
    obtain ⟨its, rv, p, _⟩ := I.list h
    exact ⟨its, rv, p.isList⟩
theorem sqX_inj (I : Inv X pins σ H s) (h : SqX X.K H tp a xs) (h' : SqX X.K H tp a ys) : xs = ys := by
  cases tp with
  | true => exact I.tuple_inj h h'
  | false => exact I.list_inj h h'
theorem PlX.lt {h : Heap} {its : Array Value} (p : PlX h tp a its) : a < h.objs.size := by
  cases tp with
  | true => obtain ⟨_, e, _⟩ := p; exact Heap.lt_size e
  | false => obtain ⟨_, e, _⟩ := p; exact Heap.lt_size e
theorem SqX.step {K : PySem.W.Frag} {G G' : Hp} (s : Sub G G') (h : SqX K G tp a xs) : SqX K G' tp a xs := by
  cases tp with
  | true => exact s.sqT h
  | false => exact s.sqL h
end
def Ige (K : PySem.W.Frag) (tp : Bool) (a : Addr) (k : Int) : It where
  go i H := ∃ (xs : List V) (x : V), SqX K H tp a xs ∧ xs[i]? = some x
  yld i H v H' := ∃ T x, v = .ref T ∧ H T = none ∧ H' = upd H T (.tup [.int (k + (i : Nat)), x]) ∧ ∀ xs, SqX K H tp a xs → xs[i]? = some x
  stop i H := ∃ xs : List V, SqX K H tp a xs ∧ xs.length = i
theorem turn_enumX {P : Program} {w : World} {K : PySem.W.Frag} {elts : List Expr} {kk : Nat} {tpos : Pos} {tp : Bool} {k : Int} {a e it : Addr} (n1 : e ≠ it) (n2 : a ≠ it) (n3 : a ≠ e) :
    Turn P w K (.Tuple elts kk tpos) (Ige K tp a k) [e, it] e (fun i h => (∃ old, IsEnum h e it (k + (i : Nat)) old) ∧ ItX h tp it a i) where
  mem := List.mem_cons_self
  obj := fun i h ⟨⟨old, he⟩, hi⟩ b hb => by
    rcases List.mem_cons.mp hb with z | z
    · subst z
      exact ⟨_, he, fun v q => nomatch q⟩
    · cases List.mem_singleton.mp z
      exact hi.obj
  keep := fun i h h' ⟨⟨old, he⟩, hi⟩ q => ⟨⟨old, q e List.mem_cons_self _ he⟩, hi.at fun o z => q it (List.mem_cons_of_mem _ List.mem_cons_self) o z⟩
  item := by
    intro X hP hw hK hc i pins s σ H E I hf st hg
    cases hP; cases hw; cases hK
    obtain ⟨⟨old, he⟩, hit⟩ := st
    obtain ⟨xs, x, hq, hx⟩ := hg
    obtain ⟨its, rv, p⟩ := sqX_read I hq
    obtain ⟨u, hu, ru⟩ := rv.get hx
    have big : e < s.heap.objs.size := Heap.lt_size he
    have lti : i < its.toArray.size := by
      obtain ⟨z, _⟩ := List.getElem?_eq_some_iff.mp hu
      simpa using z
    have D := drawsX (prog := X.prog) (w := X.w) (A := X.A.in1) (I.ok.hd hc) tp n2 its.toArray
    refine wpAny_pyNext_enum_itemC D he ⟨hit, p⟩ lti n1 (by simp only [List.mem_cons, List.not_mem_nil, or_false, not_or]; exact ⟨n1, n3.symm⟩) fun y h1 tk hy ho st1 hT hsz hk => ?_
    have ey : y = u := by
      have hy : its.toArray[i]? = some y := hy
      rw [List.getElem?_toArray, hu] at hy
      exact (Option.some.inj hy).symm
    subst ey
    refine ⟨_, rfl, wpAny_letOwnedTupleGo_enum (s := { s with heap := h1, toks := tk + 1 }) ho fun h2 he2 sb => ?_⟩
    have hT2 : h2.get? s.heap.objs.size = some { cls := .type "tuple", data := .seq #[.int (k + (i : Nat)) tk, y] } := (sb.2 _ (Nat.ne_of_gt big)).trans hT
    have fresh : ObjOk X.prog X.w (upd H s.heap.objs.size (.tup [.int (k + (i : Nat)), x])) h2 s.heap.objs.size (.tup [.int (k + (i : Nat)), x]) :=
      ⟨by show 2 ≤ sizeLine; rw [sizeLine_eq]; decide, [.int (k + (i : Nat)) tk, y], .cons ⟨_, rfl⟩ (.cons ru .nil), ⟨_, hT2, rfl, _, rfl⟩⟩
    have I1 : Inv X pins σ (upd H s.heap.objs.size (.tup [.int (k + (i : Nat)), x])) { s with heap := h2, toks := tk + 1 } :=
      I.turnedNew (ch := [e, it]) (fun b ob hb q => by
        rw [List.mem_cons, List.mem_singleton, not_or] at hb
        exact (sb.2 b hb.1).trans (hk b ob hb.1 hb.2 q)) hf (Nat.le_refl _) fresh
    refine ⟨.ref s.heap.objs.size, _, I1, rfl, ⟨_, x, rfl, I.hok.fresh (Nat.le_refl _), rfl, fun ys hy => by rw [sqX_inj I hy hq]; exact hx⟩, ⟨⟨y, ?_⟩, st1.1.at fun o q => (sb.2 it n1.symm).trans q⟩, fun b hb => ?_⟩
    · rw [show k + ((i + 1 : Nat) : Int) = k + (i : Int) + 1 by omega]
      exact he2
    · have hb2 : b < s.heap.objs.size := by
        rcases List.mem_cons.mp hb with z | z
        · rw [z]; exact big
        · rw [List.mem_singleton.mp z]
          obtain ⟨o, q, _⟩ := hit.obj
          exact Heap.lt_size q
      rw [upd_ne (Nat.ne_of_lt hb2)]
      exact (hf b hb).1
  done := by
    intro X hP hw hK hc i pins s σ H E I hf st hg
    cases hP; cases hw; cases hK
    obtain ⟨⟨old, he⟩, hit⟩ := st
    obtain ⟨xs, hq, hx⟩ := hg
    obtain ⟨its, rv, p⟩ := sqX_read I hq
    have D := drawsX (prog := X.prog) (w := X.w) (A := X.A.in1) (I.ok.hd hc) tp n2 its.toArray
    have el : i = its.toArray.size := by
      have := rv.length
      simp
      omega
    subst el
    obtain ⟨f0, f1, f2, f3, f4, f5⟩ := hf it (List.mem_cons_of_mem _ List.mem_cons_self)
    exact wpAny_pyNext_enum_endD D he ⟨hit, p⟩ fun h' eb => ⟨rfl, I.turned (t' := s.toks) (fun b o hb q => eb b o hb q) f0 f1 f3 f4 f5⟩
  self := fun A i s Q E ⟨⟨_, he⟩, _⟩ h => wpAny_pyIter_enum he h

theorem enum_new1 {v : Value} {o : Obj} {Hq : Heap → Prop} (B : Begins v o Hq) :
    Meets (Builtin.«enumerate.__new__» ⟨[.type "enumerate", v], []⟩) (fun _ R s => Hq s.heap ∧
      R (.ok (.ret (.ref (s.heap.push o).objs.size))) { s with heap := (s.heap.push o).push { cls := .type "enumerate", data := .fields #[.none, .bool false, .ref s.heap.objs.size, rawInt 0, .none, .none] } }) :=
  .of_wp fun prog w A R s h => by
    obtain ⟨hp, g, d, tk, os⟩ := s
    obtain ⟨h1, h⟩ := h
    have hsub := sub_enumerate
    have q1 : ∀ {A1 : Around} {E : Value → Shared → Prop} {Q : Value → Shared → Prop}, Q (.ref hp.objs.size) ⟨hp.push o, g, d, tk, os⟩ → wpAny (model prog w) A1 (pyIter v) Q E ⟨hp, g, d, tk, os⟩ :=
      fun q => B.iter prog w _ _ ⟨hp, g, d, tk, os⟩ _ h1 q
    wp_walk using q1
    refine wpAny_stack_any fun st => wpAny_pure ?_
    split
    · rename_i c _ _ _ _ _
      cases (c == Value.type "enumerate") <;> wp_walk using q1 <;> exact ⟨_, rfl, h⟩
    · wp_walk using q1
      exact ⟨_, rfl, h⟩
theorem enum_begins1 {prog : Program} {w : World} {A : Around} {E : Value → Shared → Prop} {s : Shared} {v : Value} {o : Obj} {Hq : Heap → Prop} {Q : Value → Shared → Prop} (B : Begins v o Hq) (h1 : Hq s.heap)
    (h : ∀ h', IsEnum h' (s.heap.objs.size + 1) s.heap.objs.size 0 .none → h'.get? s.heap.objs.size = some o → (∀ b o, s.heap.get? b = some o → h'.get? b = some o) → Q (.ref (s.heap.objs.size + 1)) { s with heap := h' }) :
    wpAny (model prog w) A (call (.type "enumerate") [v]) Q E s := by
  refine callType_new F.called_enumerate (by decide) (F.typeCall_enumerate_1 _) (F.newCall_enumerate_1 _) (fun obj => F.args_object_init_2 obj _) F.entry_enumerate_new (enum_new1 B) ⟨h1, ?_⟩
  have hz : (s.heap.push o).objs.size = s.heap.objs.size + 1 := Heap.size_push ..
  show _ ∧ _
  rw [hz]
  have he : IsEnum ((s.heap.push o).push { cls := .type "enumerate", data := .fields #[.none, .bool false, .ref s.heap.objs.size, rawInt 0, .none, .none] }) (s.heap.objs.size + 1) s.heap.objs.size 0 .none := by
    have := Heap.get?_push_size (s.heap.push o) (o := { cls := .type "enumerate", data := .fields #[.none, .bool false, .ref s.heap.objs.size, rawInt 0, .none, .none] }) rfl
    rw [hz] at this
    exact this
  exact ⟨⟨_, he, rfl⟩, h _ he (Heap.get?_push_of_some _ (Heap.get?_push_size _ B.free)) fun b o x => Heap.get?_push_of_some _ (Heap.get?_push_of_some _ x)⟩
def iEnumX (K : PySem.W.Frag) (ta : TA) : TI := fun σ H R => ta σ H fun vs H1 => ∃ tp a xs, vs = [.ref a] ∧ SqX K H1 tp a xs ∧ R (Ige K tp a 0) H1
theorem pi_enumX {X : Cx} {e : Expr} {ta : TA} {p pos tpos : Pos} {elts : List Expr} {kk : Nat} (hg : Gl X "enumerate") (hm : X.mg "enumerate" = none) (ha : PA X [e] ta) (hs : starEach [e] X.env = [(false, eval e X.env)] := by rfl) :
    PI X (.Tuple elts kk tpos) (.Call (.Name "enumerate" p) [e] [] pos) (iEnumX X.K ta) := by
  refine ⟨fun pins s σ H R I h => Call_ (ld_blt I hg hm boot_enumerate (PyProof.Rows.callWith_type1 (thn (ha.run pos pins s σ H _ I h) fun us s1 ⟨vs, H1, I1, r1, q1⟩ => ?_) hs rfl))⟩
  obtain ⟨tp, a, xs, rfl, hq, q⟩ := q1
  cases r1 with
  | cons r rr =>
    cases rr
    cases r
    obtain ⟨its, rv, p'⟩ := sqX_read I1 hq
    have la := p'.lt
    refine enum_begins1 (beginsX tp a its.toArray) p' fun h' he hit hk => wpAny_pyIter_enum he ?_
    have I2 : Inv X pins σ H1 { s1 with heap := h' } := I1.kept (t' := s1.toks) hk
    refine ⟨s1.heap.objs.size + 1, [s1.heap.objs.size + 1, s1.heap.objs.size], _, _, H1, rfl, I2, turn_enumX (e := s1.heap.objs.size + 1) (it := s1.heap.objs.size) (k := 0) (Nat.succ_ne_self _) (Nat.ne_of_lt la) (Nat.ne_of_lt (Nat.lt_succ_of_lt la)), ⟨⟨.none, he⟩, itX_new hit⟩, fun b hb => ?_, q⟩
    have hle : s1.heap.objs.size ≤ b := by
      rcases List.mem_cons.mp hb with z | z
      · rw [z]; exact Nat.le_succ _
      · rw [List.mem_singleton.mp z]; exact Nat.le_refl _
    exact I1.fpOk hle (I1.hok.fresh hle)

/-! the numbered items -/
def enumF (k : Int) : List PyData → List PyData
  | [] => []
  | d :: ds => .tuple [.int k, d] :: enumF (k + 1) ds
theorem enumF_len (k : Int) : ∀ ds : List PyData, (enumF k ds).length = ds.length
  | [] => rfl
  | d :: ds => by simp [enumF, enumF_len (k + 1) ds]
theorem enumF_get : ∀ {k : Int} {ds : List PyData} {i : Nat} {d : PyData}, ds[i]? = some d → (enumF k ds)[i]? = some (.tuple [.int (k + (i : Nat)), d])
  | k, d :: ds, 0, e, h => by
    cases h
    simp [enumF]
  | k, d :: ds, i + 1, e, h => by
    have := enumF_get (k := k + 1) (ds := ds) (i := i) (d := e) (by simpa using h)
    simp only [enumF, List.getElem?_cons_succ, this]
    congr 4
    omega
  | k, [], i, e, h => by simp at h
theorem Ext.pair {H : Hp} {T : Addr} {o : HO} (h : H T = none) : Ext H (upd H T o) := Ext.new h
section
variable {K : PySem.W.Frag} {G H H' H'' : Hp} {O O' : List Addr} {a : Addr} {ds : List PyData} {xs : List V} {tp : Bool}
theorem itd_enum {k : Int} (h : SqX K G tp a xs) (z : ds.length ≤ sizeLine) (r : RpAll K G xs ds) : ItD K G (Ige K tp a k) (enumF k ds) where
  len := by rw [enumF_len]; exact z
  go := fun i H' e hi => by
    rw [enumF_len] at hi
    have hx : i < xs.length := by rw [r.length]; exact hi
    exact ⟨xs, xs[i], h.step (Sub.ext e), List.getElem?_eq_getElem hx⟩
  yld := fun i H' O' x H'' e n al hi y => by
    obtain ⟨T, v, rfl, nT, rfl, y⟩ := y
    obtain ⟨d, h1, h2⟩ := r.get (y xs (h.step (Sub.ext e)))
    refine ⟨Ext.new nT, _, enumF_get h1, .tup (.of ?_) (by show 2 ≤ sizeLine; rw [sizeLine_eq]; decide) (.cons (.int _) (.cons (h2.mono ?_) .nil))⟩
    · rw [hide_out fun m => al T m nT, upd_same]
    · exact ((e.trans (Ext.new nT)).under n)
  stop := fun H' e => ⟨xs, h.step (Sub.ext e), by rw [enumF_len]; exact r.length⟩
end
def enumA : List PyData → R (List PyData)
  | [d] => items d >>= fun ds => .ok (enumF 0 ds)
  | _ => .bad
def dEnum (g : DnL) : DnL := fun ρ => g ρ >>= enumA
theorem rp_items {K : PySem.W.Frag} {G : Hp} {v : V} {d : PyData} {ds : List PyData} (r : Rp K G v d) (h : items d = .ok ds) : ∃ tp a xs, v = .ref a ∧ SqX K G tp a xs ∧ ds.length ≤ sizeLine ∧ RpAll K G xs ds := by
  unfold items at h
  split at h
  · cases h
    cases r with
    | lst h1 z1 a1 => exact ⟨false, _, _, rfl, h1, z1, a1⟩
  · cases h
    cases r with
    | tup h1 z1 a1 => exact ⟨true, _, _, rfl, h1, z1, a1⟩
  · cases h
theorem items_no {d : PyData} {x : Ex} : items d ≠ .exc x := by unfold items; split <;> exact fun h => by cases h
theorem fi_enum {X : Cx} {Tb : List Addr} {W : WX} {e : Expr} {g : DnL} {p pos tpos : Pos} {elts : List Expr} {kk : Nat} (hg : Gl X "enumerate") (hm : X.mg "enumerate" = none) (ha : PA X [e] (tDs X.K Tb W g)) (hs : starEach [e] X.env = [(false, eval e X.env)] := by rfl) :
    PI X (.Tuple elts kk tpos) (.Call (.Name "enumerate" p) [e] [] pos) (tI X.K Tb W (dEnum g)) := (pi_enumX hg hm ha hs).by fun σ H R ⟨H0, O0, O, ρ, st, h⟩ => ⟨H0, O0, O, ρ, st, by
  refine Post.then h fun d v H1 ex r k => ?_
  unfold enumA at k
  split at k
  · rename_i d0
    cases r with
    | cons r1 r2 =>
      cases r2
      cases hi : items d0 with
      | bad => rw [hi] at k; exact k.elim
      | exc x => exact absurd hi items_no
      | ok ds =>
        rw [hi] at k
        obtain ⟨tp, a, xs, rfl, h1, z1, a1⟩ := rp_items r1 hi
        exact ⟨tp, a, xs, rfl, h1.step Sub.unhide, k _ H1 (Ext.refl _) (itd_enum h1 z1 a1)⟩
  · exact k.elim⟩

/-! zip of two -/
def Igz (K : PySem.W.Frag) (t1 t2 : Bool) (a b : Addr) : It where
  go i H := ∃ (xs ys : List V) (x y : V), SqX K H t1 a xs ∧ SqX K H t2 b ys ∧ xs[i]? = some x ∧ ys[i]? = some y
  yld i H v H' := ∃ T x y, v = .ref T ∧ H T = none ∧ H' = upd H T (.tup [x, y]) ∧ (∀ xs, SqX K H t1 a xs → xs[i]? = some x) ∧ ∀ ys, SqX K H t2 b ys → ys[i]? = some y
  stop i H := ∃ xs ys : List V, SqX K H t1 a xs ∧ SqX K H t2 b ys ∧ i = min xs.length ys.length
theorem turn_zipX {P : Program} {w : World} {K : PySem.W.Frag} {elts : List Expr} {kk : Nat} {tpos : Pos} {t1 t2 : Bool} {a b z TI TO i1 i2 : Addr} (S : ZipSep2 z TI TO i1 i2 [i1, a] [i2, b]) (n1 : a ≠ i1) (n2 : b ≠ i2) :
    Turn P w K (.Tuple elts kk tpos) (Igz K t1 t2 a b) [z, TI, TO, i1, i2] z (fun i h => IsZip h z TI TO .none ∧ IsTupOf2 h TI (.ref i1) (.ref i2) ∧ (∃ x y, IsTupOf2 h TO x y) ∧ ItX h t1 i1 a i ∧ ItX h t2 i2 b i) where
  mem := List.mem_cons_self
  obj := fun i h ⟨hz, hTI, ⟨x, y, hTO⟩, h1, h2⟩ c hc => by
    simp only [List.mem_cons, List.not_mem_nil, or_false] at hc
    rcases hc with q | q | q | q | q <;> subst q
    · exact ⟨_, hz, fun v q => nomatch q⟩
    · exact ⟨_, hTI, fun v q => nomatch q⟩
    · exact ⟨_, hTO, fun v q => nomatch q⟩
    · exact h1.obj
    · exact h2.obj
  keep := fun i h h' ⟨hz, hTI, ⟨x, y, hTO⟩, h1, h2⟩ k =>
    ⟨k z (by simp) _ hz, k TI (by simp) _ hTI, ⟨x, y, k TO (by simp) _ hTO⟩, h1.at fun o q => k i1 (by simp) o q, h2.at fun o q => k i2 (by simp) o q⟩
  item := by
    intro X hP hw hK hc i pins s σ H E I hf st hg
    cases hP; cases hw; cases hK
    obtain ⟨hz, hTI, ⟨x0, y0, hTO⟩, h1, h2⟩ := st
    obtain ⟨xs, ys, x, y, hqx, hqy, hx, hy⟩ := hg
    obtain ⟨its, rv, p⟩ := sqX_read I hqx
    obtain ⟨its2, rv2, p2⟩ := sqX_read I hqy
    obtain ⟨u, hu, ru⟩ := rv.get hx
    obtain ⟨u2, hu2, ru2⟩ := rv2.get hy
    have zl : z < s.heap.objs.size := Heap.lt_size hz
    have D1 := drawsX (prog := X.prog) (w := X.w) (A := X.A.in1) (I.ok.hd hc) t1 n1 its.toArray
    have D2 := drawsX (prog := X.prog) (w := X.w) (A := X.A.in1) (I.ok.hd hc) t2 n2 its2.toArray
    have l1 : i < its.toArray.size := by
      obtain ⟨q, _⟩ := List.getElem?_eq_some_iff.mp hu
      simpa using q
    have l2 : i < its2.toArray.size := by
      obtain ⟨q, _⟩ := List.getElem?_eq_some_iff.mp hu2
      simpa using q
    refine wpAny_pyNext_zipD2_item S D1 D2 hz hTI hTO ⟨h1, p⟩ ⟨h2, p2⟩ l1 l2 fun v v2 h' tk e1 e2 z' TO' s1 s2 hT hsz hk => ?_
    have ev : v = u := by
      have e1 : its.toArray[i]? = some v := e1
      rw [List.getElem?_toArray, hu] at e1
      exact (Option.some.inj e1).symm
    have ev2 : v2 = u2 := by
      have e2 : its2.toArray[i]? = some v2 := e2
      rw [List.getElem?_toArray, hu2] at e2
      exact (Option.some.inj e2).symm
    subst ev ev2
    refine ⟨_, rfl, wpAny_letOwnedTupleGo_zip (s := { s with heap := h', toks := tk }) z' fun h'' z'' sb => ?_⟩
    have hT2 : h''.get? s.heap.objs.size = some { cls := .type "tuple", data := .seq #[v, v2] } := (sb.2 _ (Nat.ne_of_gt zl)).trans hT
    have fresh : ObjOk X.prog X.w (upd H s.heap.objs.size (.tup [x, y])) h'' s.heap.objs.size (.tup [x, y]) :=
      ⟨by show 2 ≤ sizeLine; rw [sizeLine_eq]; decide, [v, v2], .cons ru (.cons ru2 .nil), ⟨_, hT2, rfl, _, rfl⟩⟩
    have far : ∀ c o, c ∉ [z, TI, TO, i1, i2] → s.heap.get? c = some o → h''.get? c = some o := fun c o hb q => by
      simp only [List.mem_cons, List.not_mem_nil, or_false, not_or] at hb
      exact (sb.2 c hb.1).trans (hk c o hb.1 hb.2.2.1 hb.2.2.2.1 hb.2.2.2.2 q)
    have I1 : Inv X pins σ (upd H s.heap.objs.size (.tup [x, y])) { s with heap := h'', toks := tk } := I.turnedNew (ch := [z, TI, TO, i1, i2]) far hf (Nat.le_refl _) fresh
    have iz1 : i1 ≠ z := fun q => S.zf1 (by rw [← q]; exact List.mem_cons_self)
    have iz2 : i2 ≠ z := fun q => S.zf2 (by rw [← q]; exact List.mem_cons_self)
    refine ⟨.ref s.heap.objs.size, _, I1, rfl, ⟨_, x, y, rfl, I.hok.fresh (Nat.le_refl _), rfl, fun l hl => by rw [sqX_inj I hl hqx]; exact hx, fun l hl => by rw [sqX_inj I hl hqy]; exact hy⟩, ⟨z'', ?_, ⟨v, v2, ?_⟩, ?_, ?_⟩, fun c hcm => ?_⟩
    · exact (sb.2 _ S.TIz).trans (hk _ _ S.TIz S.TITO S.TIi1 S.TIi2 hTI)
    · exact (sb.2 _ S.TOz).trans TO'
    · exact s1.1.at fun o q => (sb.2 i1 iz1).trans q
    · exact s2.1.at fun o q => (sb.2 i2 iz2).trans q
    · have lt : c < s.heap.objs.size := by
        simp only [List.mem_cons, List.not_mem_nil, or_false] at hcm
        rcases hcm with q | q | q | q | q <;> subst q
        · exact zl
        · exact Heap.lt_size hTI
        · exact Heap.lt_size hTO
        · obtain ⟨o, q, _⟩ := h1.obj; exact Heap.lt_size q
        · obtain ⟨o, q, _⟩ := h2.obj; exact Heap.lt_size q
      rw [upd_ne (Nat.ne_of_lt lt)]
      exact (hf c hcm).1
  done := by
    intro X hP hw hK hc i pins s σ H E I hf st hg
    cases hP; cases hw; cases hK
    obtain ⟨hz, hTI, ⟨x0, y0, hTO⟩, h1, h2⟩ := st
    obtain ⟨xs, ys, hqx, hqy, hend⟩ := hg
    obtain ⟨its, rv, p⟩ := sqX_read I hqx
    obtain ⟨its2, rv2, p2⟩ := sqX_read I hqy
    have l1 := rv.length
    have l2 := rv2.length
    have D1 := drawsX (prog := X.prog) (w := X.w) (A := X.A.in1) (I.ok.hd hc) t1 n1 its.toArray
    have D2 := drawsX (prog := X.prog) (w := X.w) (A := X.A.in1) (I.ok.hd hc) t2 n2 its2.toArray
    refine wpAny_pyNext_zipD2_end S D1 D2 hz hTI hTO ⟨h1, p⟩ ⟨h2, p2⟩ (by simp; omega) (by simp; omega) (by simp; omega) fun h' tk hk => ⟨rfl, I.turnedL (t' := tk) (ch := [z, TI, TO, i1, i2]) (fun c o hb q => ?_) hf⟩
    simp only [List.mem_cons, List.not_mem_nil, or_false, not_or] at hb
    exact hk c o hb.1 hb.2.2.1 hb.2.2.2.1 hb.2.2.2.2 q
  self := fun A i s Q E st h => wpAny_pyIter_zip st.1 h
def iZipX (K : PySem.W.Frag) (ta : TA) : TI := fun σ H R => ta σ H fun vs H1 => ∃ t1 t2 a b xs ys, vs = [.ref a, .ref b] ∧ SqX K H1 t1 a xs ∧ SqX K H1 t2 b ys ∧ R (Igz K t1 t2 a b) H1
theorem pi_zipX {X : Cx} {e e2 : Expr} {ta : TA} {p pos tpos : Pos} {elts : List Expr} {kk : Nat} (hg : Gl X "zip") (hm : X.mg "zip" = none) (ha : PA X [e, e2] ta)
    (hs : starEach [e, e2] X.env = (false, eval e X.env) :: starEach [e2] X.env := by rfl) (hpl : (backTo pos (starEach [e2] X.env)).any (·.1) = false := by rfl) :
    PI X (.Tuple elts kk tpos) (.Call (.Name "zip" p) [e, e2] [] pos) (iZipX X.K ta) := by
  refine ⟨fun pins s σ H R I h => Call_ (ld_blt I hg hm PyProof.Rows.boot_zip (PyProof.Rows.callWith_type1 (thn (ha.run pos pins s σ H _ I h) fun us s1 ⟨vs, H1, I1, r1, q1⟩ => ?_) hs hpl))⟩
  obtain ⟨t1, t2, a, b, xs, ys, rfl, hqx, hqy, q⟩ := q1
  cases r1 with
  | cons r rr =>
    cases rr with
    | cons r' rr =>
      cases rr
      cases r
      cases r'
      obtain ⟨its, rv, p1⟩ := sqX_read I1 hqx
      obtain ⟨its2, rv2, p2⟩ := sqX_read I1 hqy
      have la := p1.lt
      have lb := p2.lt
      have S : ZipSep2 (s1.heap.objs.size + 4) (s1.heap.objs.size + 2) (s1.heap.objs.size + 3) s1.heap.objs.size (s1.heap.objs.size + 1) [s1.heap.objs.size, a] [s1.heap.objs.size + 1, b] :=
        zip_sep2 (fun c hc => by rw [List.mem_singleton.mp hc]; exact la) (fun c hc => by rw [List.mem_singleton.mp hc]; exact lb)
      refine zip_begins2 (beginsX t1 a its.toArray) (beginsX t2 b its2.toArray) p1 p2 fun h' hz hTI hTO g1 g2 hsz hk => wpAny_pyIter_zip hz ?_
      have I2 : Inv X pins σ H1 { s1 with heap := h' } := I1.kept (t' := s1.toks) hk
      refine ⟨s1.heap.objs.size + 4, [s1.heap.objs.size + 4, s1.heap.objs.size + 2, s1.heap.objs.size + 3, s1.heap.objs.size, s1.heap.objs.size + 1], _, _, H1, rfl, I2, turn_zipX S (Nat.ne_of_lt la) (Nat.ne_of_lt (Nat.lt_succ_of_lt lb)), ⟨hz, hTI, ⟨_, _, hTO⟩, itX_new g1, itX_new g2⟩, fun c hcm => ?_, q⟩
      simp only [List.mem_cons, List.not_mem_nil, or_false] at hcm
      have hle : s1.heap.objs.size ≤ c := by
        rcases hcm with q | q | q | q | q <;> rw [q] <;> first | exact Nat.le_add_right _ _ | exact Nat.le_refl _
      exact I1.fpOk hle (I1.hok.fresh hle)
def zipD : List PyData → List PyData → List PyData
  | d :: ds, e :: es => .tuple [d, e] :: zipD ds es
  | _, _ => []
theorem zipD_len : ∀ ds es : List PyData, (zipD ds es).length = min ds.length es.length
  | [], es => by simp [zipD]
  | d :: ds, [] => by simp [zipD]
  | d :: ds, e :: es => by simp [zipD, zipD_len ds es, Nat.succ_min_succ]
theorem zipD_get : ∀ {ds es : List PyData} {i : Nat} {d e : PyData}, ds[i]? = some d → es[i]? = some e → (zipD ds es)[i]? = some (.tuple [d, e])
  | d :: ds, e :: es, 0, _, _, h, k => by cases h; cases k; rfl
  | d :: ds, e :: es, i + 1, _, _, h, k => by
    simp only [zipD, List.getElem?_cons_succ]
    exact zipD_get (by simpa using h) (by simpa using k)
  | [], es, i, _, _, h, k => by simp at h
  | d :: ds, [], i, _, _, h, k => by simp at k
theorem itd_zip {K : PySem.W.Frag} {G : Hp} {t1 t2 : Bool} {a b : Addr} {xs ys : List V} {ds es : List PyData} (h1 : SqX K G t1 a xs) (h2 : SqX K G t2 b ys) (z : ds.length ≤ sizeLine) (r1 : RpAll K G xs ds) (r2 : RpAll K G ys es) : ItD K G (Igz K t1 t2 a b) (zipD ds es) where
  len := by rw [zipD_len]; omega
  go := fun i H' e hi => by
    rw [zipD_len] at hi
    have hx : i < xs.length := by rw [r1.length]; omega
    have hy : i < ys.length := by rw [r2.length]; omega
    exact ⟨xs, ys, xs[i], ys[i], h1.step (Sub.ext e), h2.step (Sub.ext e), List.getElem?_eq_getElem hx, List.getElem?_eq_getElem hy⟩
  yld := fun i H' O' x H'' e n al hi y => by
    obtain ⟨T, v, v2, rfl, nT, rfl, y1, y2⟩ := y
    obtain ⟨d, g1, g2⟩ := r1.get (y1 xs (h1.step (Sub.ext e)))
    obtain ⟨d2, g3, g4⟩ := r2.get (y2 ys (h2.step (Sub.ext e)))
    have sb := ((e.trans (Ext.new nT (o := .tup [v, v2]))).under n)
    refine ⟨Ext.new nT, _, zipD_get g1 g3, .tup (.of ?_) (by show 2 ≤ sizeLine; rw [sizeLine_eq]; decide) (.cons (g2.mono sb) (.cons (g4.mono sb) .nil))⟩
    rw [hide_out fun m => al T m nT, upd_same]
  stop := fun H' e => ⟨xs, ys, h1.step (Sub.ext e), h2.step (Sub.ext e), by rw [zipD_len, r1.length, r2.length]⟩
def zipA : List PyData → R (List PyData)
  | [d, e] => items d >>= fun ds => items e >>= fun es => .ok (zipD ds es)
  | _ => .bad
def dZip (g : DnL) : DnL := fun ρ => g ρ >>= zipA
theorem fi_zip {X : Cx} {Tb : List Addr} {W : WX} {e e2 : Expr} {g : DnL} {p pos tpos : Pos} {elts : List Expr} {kk : Nat} (hg : Gl X "zip") (hm : X.mg "zip" = none) (ha : PA X [e, e2] (tDs X.K Tb W g))
    (hs : starEach [e, e2] X.env = (false, eval e X.env) :: starEach [e2] X.env := by rfl) (hpl : (backTo pos (starEach [e2] X.env)).any (·.1) = false := by rfl) :
    PI X (.Tuple elts kk tpos) (.Call (.Name "zip" p) [e, e2] [] pos) (tI X.K Tb W (dZip g)) := (pi_zipX hg hm ha hs hpl).by fun σ H R ⟨H0, O0, O, ρ, st, h⟩ => ⟨H0, O0, O, ρ, st, by
  refine Post.then h fun d v H1 ex r k => ?_
  unfold zipA at k
  split at k
  · rename_i d0 e0
    cases r with
    | cons r1 r2 =>
      cases r2 with
      | cons r2 r3 =>
        cases r3
        cases hi : items d0 with
        | bad => rw [hi] at k; exact k.elim
        | exc x => exact absurd hi items_no
        | ok ds =>
          rw [hi] at k
          cases hj : items e0 with
          | bad => rw [hj] at k; exact k.elim
          | exc x => exact absurd hj items_no
          | ok es =>
            rw [hj] at k
            obtain ⟨tp, a, xs, rfl, h1, z1, a1⟩ := rp_items r1 hi
            obtain ⟨tp2, b, ys, rfl, h2, z2, a2⟩ := rp_items r2 hj
            exact ⟨tp, tp2, a, b, xs, ys, rfl, h1.step Sub.unhide, h2.step Sub.unhide, k _ H1 (Ext.refl _) (itd_zip h1 h2 z1 a1 a2)⟩
  · exact k.elim⟩
end PD

set_option Elab.async false
set_option linter.all false
set_option maxRecDepth 100000
set_option maxHeartbeats 1000000
namespace PD
open PySem PySem.Spec PyProof.Rows L2

/-! ### tuple(range(n)) -/
def bTupR1 : PyData → R PyData
  | .int n => if rgOk 0 n = true then .ok (.tuple (lstRg 0 n)) else .bad
  | _ => .bad
section
variable {X : Cx} {Tb : List Addr} {W : WX} {a : Expr} {f : Dn} {p p2 pos pos2 : Pos}
theorem fd_tupR1 (hc : X.calm = true) (hl : Gl X "tuple") (ml : X.mg "tuple" = none) (hr : Gl X "range") (mr : X.mg "range" = none) (ha : PE X a (tD X.K Tb W f))
    (n1 : starEach [a] X.env = (false, eval a X.env) :: starEach [] X.env := by rfl) (n2 : starEach [.Call (.Name "range" p2) [a] [] pos2] X.env = (false, eval (.Call (.Name "range" p2) [a] [] pos2) X.env) :: starEach [] X.env := by rfl) :
    PE X (.Call (.Name "tuple" p) [.Call (.Name "range" p2) [a] [] pos2] [] pos) (tD X.K Tb W (dOne bTupR1 f)) :=
  (pe_tupRg hc hl ml (prg_1 hr mr ha n1) n2).by fun σ H Q ⟨H0, O0, O, ρ, st, h⟩ => ⟨H0, O0, O, ρ, st, by
    refine Post.then h fun d v H1 ex rv k => ?_
    unfold bTupR1 at k
    split at k
    · rename_i n
      cases rv
      split at k
      · rename_i z
        refine ⟨n, rfl, rgOk_ok z, fun q hq => ?_⟩
        have al := (st.step ex).al
        refine k _ _ (Ext.new hq) (.tup (.of ?_) (lstRg_len _ _ z) (rp_rg _ _))
        rw [hide_out (fun m => al q m hq)]
        exact upd_same
      · exact k.elim
    · exact k.elim⟩
end

/-! ### a lambda of one parameter -/
def FunO (q : Str) (params : Arguments) (body : Expr) (scope : Scope) (cl : List (Str × Addr)) (c f : Addr) : HO := .ext fun h => ∃ pm ct, h.get? f = some (PySem.W.kla_obj "<lambda>" q params body scope cl pm c ct)
structure LamS1 (sc scope : Scope) (x : Str) : Prop where
  kind : scope.kind = .function
  co : scope.isCoroutine = false
  gen : scope.isGenerator = false
  par : scope.names.lookup x = some .local
  cell : ∀ y ∈ scope.names, y.2 ≠ .cell
  loc : ∀ y ∈ scope.names, y.2 = .local → y.1 = x
  free : ∀ y ∈ scope.names, y.2 = .free → sc.names.lookup y.1 = some .cell ∨ sc.names.lookup y.1 = some .free
def lamS1B (sc scope : Scope) (x : Str) : Bool :=
  decide (scope.kind = .function) && !scope.isCoroutine && !scope.isGenerator && decide (scope.names.lookup x = some .local) && scope.names.all fun y => !decide (y.2 = .cell) && (!decide (y.2 = .local) || decide (y.1 = x)) && (!decide (y.2 = .free) || decide (sc.names.lookup y.1 = some .cell) || decide (sc.names.lookup y.1 = some .free))
theorem lamS1_by {sc scope : Scope} {x : Str} (h : lamS1B sc scope x = true) : LamS1 sc scope x := by
  unfold lamS1B at h
  simp only [Bool.and_eq_true, Bool.or_eq_true, Bool.not_eq_true', decide_eq_true_eq, decide_eq_false_iff_not, List.all_eq_true] at h
  obtain ⟨⟨⟨⟨h1, h2⟩, h3⟩, h4⟩, h5⟩ := h
  refine ⟨h1, h2, h3, h4, fun y hy => (h5 y hy).1.1, fun y hy e => ?_, fun y hy e => ?_⟩
  · rcases (h5 y hy).1.2 with z | z
    · exact absurd e z
    · exact z
  · rcases (h5 y hy).2 with (z | z) | z
    · exact absurd e z
    · exact .inl z
    · exact .inr z
theorem LamS1.has {X : Cx} {scope : Scope} {x : Str} (L : LamS1 X.env.scope scope x) (ok : X.Ok) : ∀ y ∈ scope.names, y.2 = .free → ∃ c, X.env.cells.lookup y.1 = some c := fun y hy e => by
  rcases L.free y hy e with k | k
  · exact ok.has _ (.inl k)
  · exact ok.has _ (.inr k)
abbrev lamE (X : Cx) (q : Str) (scope : Scope) (L f c : Addr) : Env := PySem.W.envX q scope L f (.ref c) (cloFrom X.env.cells scope.names [])
def lamX (X : Cx) (A : Around) (s : Shared) (H : Hp) (scope : Scope) (q : Str) (f c : Addr) : Cx where
  prog := X.prog
  w := X.w
  K := X.K
  mg := X.mg
  base := X.base
  A := A.deeper (lamE X q scope s.heap.objs.size f c)
  N := X.N
  s_0 := s
  H_0 := H
  env := lamE X q scope s.heap.objs.size f c
  outer := X.stack
  stack := lamE X q scope s.heap.objs.size f c :: X.stack
  ex := []
  fn := fun _ => false
  calm := true
  pn := []
  xe := fun e s' => wpAny (model X.prog X.w) (A.deeper (lamE X q scope s.heap.objs.size f c)) (leaving (lamE X q scope s.heap.objs.size f c) e) (fun _ s'' => L2.CX X.prog X.w X.stack H s (fun _ _ _ => False) e s'') (fun e' s'' => L2.CX X.prog X.w X.stack H s (fun _ _ _ => False) e' s'') s'
/-- the lambda's value, made -/
def tLam1 (P : Addr) (q : Str) (params : Arguments) (body : Expr) (scope : Scope) (cl : List (Str × Addr)) : TE := fun σ H Q => TabC H P ∧ ∀ f c n H1, TabbedC P H H1 → H1 f = none → H1 c = some (LamX.CodeO c n) → Q (.ref f) (upd H1 f (FunO q params body scope cl c f))
theorem pe_lam1 {X : Cx} {P c : Addr} {params : Arguments} {body : Expr} {scope : Scope} {pos : Pos} {x : Str} (TB : GxR.TabB X.base X.mg c P) (hcode : X.env.code = .ref c) (L : LamS1 X.env.scope scope x) (hdef : defaultsOf params X.env = ([], [])) :
    PE X (.Lambda params body scope pos) (tLam1 P (X.env.qual ++ "<lambda>") params body scope (cloFrom X.env.cells scope.names [])) := by
  refine ⟨fun pins s σ H Q I ⟨tab, h⟩ => ?_⟩
  obtain ⟨ps, hP, ht, ha⟩ := tab
  have hfree := L.has I.ok
  refine PySem.W.kla_eval hdef ?_
  have bP : s.heap.BuiltinsAt X.mg P := TB.bm.keeps I.bk
  have hP' : s.heap.get? P = some { cls := .none, data := .fields ps } := I.hok P _ hP
  cases hc : codeAmong pos ps.toList with
  | none =>
    refine PySem.W.kla_makeFunction (mg := X.mg) (c := c) (P := P) (ps := ps) (closure_ok hfree) I.ok.glob (I.mod.glob.keeps I.bk) hcode (TB.code.keeps I.bk) hP' ht hc TB.gP bP fun c1 ct h1 tk hx hge hlt hrec htb => ?_
    obtain ⟨c2, oc, vs, t, e2, hoc, hd, hv⟩ := hrec
    cases e2
    have nC : H c1 = none := I.hok.fresh hge
    have I1 := LamX.inv_table (t' := tk) I hP (fun b o hb e => hx b o hb e) htb hge ⟨oc, vs, t, hoc, hd, hv⟩
    have I2 := I1.laid (a := h1.objs.size) (o := FunO (X.env.qual ++ "<lambda>") params body scope (cloFrom X.env.cells scope.names []) c1 h1.objs.size) (t' := tk) (h' := h1.push (PySem.W.kla_obj "<lambda>" (X.env.qual ++ "<lambda>") params body scope (cloFrom X.env.cells scope.names []) ((X.mg "__name__").getD .none) c1 ct))
      (fun b u e => Heap.get?_push_of_some _ e) (Nat.le_refl _) ⟨⟨_, _, Heap.get?_push_size _ rfl⟩, ⟨_, Heap.get?_push_size _ rfl⟩, fun a1 a2 ⟨pm, ct, e⟩ st => ⟨pm, ct, st _ e⟩⟩
    exact ⟨.ref h1.objs.size, _, I2, rfl, h _ c1 _ _ (tabbed_new hP ht ha nC) (I1.hok.fresh (Nat.le_refl _)) upd_same⟩
  | some cv =>
    obtain ⟨c1, q1, e, hco⟩ := ha pos cv hc
    subst e
    refine PySem.W.kla_makeFunctionHit (mg := X.mg) (c := c) (P := P) (ps := ps) (closure_ok hfree) I.ok.glob (I.mod.glob.keeps I.bk) hcode (TB.code.keeps I.bk) hP' ht hc bP fun ct h1 tk hx hsz => ?_
    have I1 : Inv X pins σ H { s with heap := h1, toks := tk } := I.kept hx
    have I2 := I1.laid (a := h1.objs.size) (o := FunO (X.env.qual ++ "<lambda>") params body scope (cloFrom X.env.cells scope.names []) c1 h1.objs.size) (t' := tk) (h' := h1.push (PySem.W.kla_obj "<lambda>" (X.env.qual ++ "<lambda>") params body scope (cloFrom X.env.cells scope.names []) ((X.mg "__name__").getD .none) c1 ct))
      (fun b u e => Heap.get?_push_of_some _ e) (Nat.le_refl _) ⟨⟨_, _, Heap.get?_push_size _ rfl⟩, ⟨_, Heap.get?_push_size _ rfl⟩, fun a1 a2 ⟨pm, ct, e⟩ st => ⟨pm, ct, st _ e⟩⟩
    exact ⟨.ref h1.objs.size, _, I2, rfl, h _ c1 q1 _ (tabbed_hit ⟨ps, hP, ht, ha⟩) (I1.hok.fresh (Nat.le_refl _)) hco⟩
/-- a call whose code's name is whatever it is -/
theorem call_fun_expr {prog : Program} {w : World} {A : Around} {s : Shared} {R : Result → Shared → Prop} {a c : Addr} {args : Args} {o oc : Obj} {fd : FuncData} {body : Expr} {vs : Array Value} {q : Str} {t : Tok} (hroom : A.depth < recursionLimit)
    (ho : s.heap.get? a = some o) (hdt : o.data = .func fd) (hco : fd.scope.isCoroutine = false) (hgen : fd.scope.isGenerator = false) (hbody : fd.body = .expr body) (hcd : fd.code = .ref c) (hoc : s.heap.get? c = some oc) (hdc : oc.data = .fields vs) (hq : vs[1]? = some (.str q t))
    (h : wpAny (model prog w) A.in1 (bindArgs fd args) (fun binds s1 =>
      wpAny (model prog w) A.in1 (newFunctionEnv fd.scope fd.globals fd.closure binds (q ++ ".<locals>.") (some a) (.ref c) none fd.builtins)
        (fun env s2 => s2.heap.NoLimit ∧ codeAny (model prog w) A (.expr body env) R s2) (fun e s' => R (.error e) s') s1) (fun e s' => R (.error e) s') s) :
    codeAny (model prog w) A (.call (.ref a) args) R s := by
  refine codeAny_of_tree ?_
  show wpAny _ A.in1 (callAny (.ref a) args) _ _ s
  simp only [callAny]
  refine wpAny_bind (wpAny_load ho ?_)
  simp only [hdt, callFunction, hco, hgen, hbody, hcd]
  refine wpAny_bind (m := field (.ref c) 1) (wpAny_field hoc hdc hq (wpAny_bind (wpAny_pure ?_)))
  refine wpAny_bind (wpAny_mono h (fun binds s1 h1 => ?_) fun _ _ z => z)
  refine wpAny_bind (wpAny_mono h1 (fun env s2 h2 => ?_) fun _ _ z => z)
  exact wpAny_bind (wpAny_enterFrame h2.1 hroom (wpAny_pure ⟨rfl, h2.2⟩))
section
variable {X : Cx} {pins : List (Addr × Obj)} {σ : L2.St} {H : Hp} {s : Shared}
theorem stack_out (I : Inv X pins σ H s) {b : Addr} (h : s.heap.objs.size ≤ b) : b ∉ frs X.stack := fun z => by
  rcases List.mem_cons.mp (I.stkSub _ z) with e | e
  · have := I.lt
    rw [← e] at this
    exact Nat.lt_irrefl _ (Nat.lt_of_lt_of_le this h)
  · exact I.nofs h e
/-- the frame of the lambda's call -/
theorem lam_enter {A : Around} {scope : Scope} {f c : Addr} {h1 : Heap} {tk : Nat} {q x : Str} {p : Nat} {v : V} {u : Value} (I : Inv X pins σ H s) (L : LamS1 X.env.scope scope x) (hN : X.N.Nodup) (hp : X.N[p]? = some x) (fr : A.frames = some X.stack) (hd : A.handled = none)
    (rel : RelV v u) (hns : h1.Ns s.heap.objs.size fun y => [(x, u)].reverse.lookup y) (kp : ∀ b o, s.heap.get? b = some o → h1.get? b = some o) :
    Inv (lamX X A s H scope q f c) [] (σ.set p (some v)) H { s with heap := h1, toks := tk } := by
  have hfree := L.has I.ok
  have e0 := I.env0
  have cm : ∀ {y d}, (cloFrom X.env.cells scope.names []).lookup y = some d → X.env.cells.lookup y = some d := fun {y d} e => by
    rcases cloFrom_mem (PySem.mem_of_lookup e) with hm | ⟨g1, g2⟩
    · cases hm
    · obtain ⟨d1, hc⟩ := hfree _ g1 rfl
      have hc : X.env.cells.lookup y = some d1 := hc
      have e2 : d = d1 := by rw [g2, hc] <;> rfl
      rw [e2]; exact hc
  have look : ∀ {y}, scope.names.lookup y = some .free → ∃ d, (cloFrom X.env.cells scope.names []).lookup y = some d := fun {y} hl =>
    mem_lookup (cloFrom_has (cells := X.env.cells) (acc := []) (PySem.mem_of_lookup hl))
  have noA : ∀ b : Addr, b ∉ (lamX X A s H scope q f c).ex := fun b z => absurd (show b ∈ ([] : List Addr) from z) (by simp)
  refine ⟨⟨e0.mod, L.kind, rfl, rfl, Nat.le_refl _, fun y z d e1 e2 => I.ok.inj y z d (cm e1) (cm e2), fun y hy => ?_, fun y d z _ => (by cases (show false = true from z)), fun _ => hd, Around.frames_deeper fr, .inr ⟨rfl, rfl⟩, fun b z => absurd z (noA b), e0.bs, e0.bsz, fun b _ _ => noA b, fun b z => absurd z (noA b), e0.funs, e0.frf⟩,
    rfl, e0.bare, Un.kept kp, ⟨_, hns, fun i y w e1 e2 e3 => ?_⟩, fun y d e => ?_, e0.hok.fresh (Nat.le_refl _), fun y d e => I.freeC y d (cm e), fun r hr => absurd (show r ∈ ([] : List (Addr × Obj)) ++ [] from hr) (by simp), e0.hok.kept kp, by rw [List.length_set]; exact I.len⟩
  · rcases hy with hy | hy
    · exact absurd rfl (L.cell _ (PySem.mem_of_lookup hy))
    · exact look hy
  · have e3 : Vis scope y := e3
    have e1 : X.N[i]? = some y := e1
    by_cases hip : p = i
    · subst hip
      rw [hp] at e1
      cases e1
      have il : p < σ.length := by
        have := (List.getElem?_eq_some_iff.mp hp).1
        rw [I.len]; exact this
      rw [List.getElem?_set_self il] at e2
      cases e2
      exact ⟨u, rel, .inl ⟨L.par, by simp⟩⟩
    · rw [List.getElem?_set_ne hip] at e2
      have ne : y ≠ x := fun z => hip (by
        obtain ⟨l1, g1⟩ := List.getElem?_eq_some_iff.mp hp
        obtain ⟨l2, g2⟩ := List.getElem?_eq_some_iff.mp e1
        exact (List.getElem_inj hN).mp (g1.trans (z.symm.trans g2.symm)))
      rcases e3 with k | k | k
      · exact absurd (L.loc _ (PySem.mem_of_lookup k) rfl) ne
      · exact absurd rfl (L.cell _ (PySem.mem_of_lookup k))
      · obtain ⟨m, hn, hl⟩ := I.loc
        have hvis : Vis X.env.scope y := (L.free _ (PySem.mem_of_lookup k) rfl).elim (fun k => .inr (.inl k)) (fun k => .inr (.inr k))
        obtain ⟨w2, r, g⟩ := hl i y w e1 e2 hvis
        obtain ⟨d2, h2⟩ := look k
        refine ⟨w2, r, .inr ⟨.inr k, d2, h2, ?_⟩⟩
        have c1 := cm h2
        rcases g with ⟨k2, _⟩ | ⟨_, c3, g1, z⟩
        · have k2 : X.env.scope.names.lookup y = some .local := k2
          rcases L.free _ (PySem.mem_of_lookup k) rfl with k3 | k3 <;> rw [show X.env.scope.names.lookup y = _ from k3] at k2 <;> cases k2
        · rw [c1] at g1
          cases g1
          obtain ⟨ob, ho, hd⟩ := z
          exact ⟨ob, kp _ _ ho, hd⟩
  · obtain ⟨w2, ob, ho, hd⟩ := I.cell y d (cm e)
    exact ⟨w2, ob, kp _ _ ho, hd⟩
/-- the call of the lambda, from anywhere in its maker's frame -/
theorem lam_call {A : Around} {scope : Scope} {f c : Addr} {q n x : Str} {p k : Nat} {v : V} {u : Value} {params : Arguments} {body : Expr} {tb : TE} {Q : VK} (I : Inv X pins σ H s) (L : LamS1 X.env.scope scope x) (hN : X.N.Nodup) (hp : X.N[p]? = some x) (fr : A.frames = some X.stack) (hd : A.handled = none) (hdep : A.depth < recursionLimit)
    (hr : ∀ L f c q, Room k (A.deeper (lamE X q scope L f c))) (hf : H f = some (FunO q params body scope (cloFrom X.env.cells scope.names []) c f)) (hc : H c = some (LamX.CodeO c n)) (hbind : ∀ pm ct, bindArgs (PySem.W.kla_fn "<lambda>" q params body scope (cloFrom X.env.cells scope.names []) pm (.ref c) ct) ⟨[u], []⟩ = pure [(x, u)])
    (hb : ∀ (A : Around) (s : Shared) (H : Hp) (q : Str) (f c : Addr), Room k (A.deeper (lamE X q scope s.heap.objs.size f c)) → PE (lamX X A s H scope q f c) body tb) (rel : RelV v u) (h : tb (σ.set p (some v)) H Q) {E : Value → Shared → Prop} :
    wpAny (model X.prog X.w) A (call (.ref f) [u]) (fun w s' => CE X.stack X.prog X.w H s Q w s') E s := by
  obtain ⟨⟨pm, ct, ho⟩, _⟩ := I.hok f _ hf
  obtain ⟨⟨oc, vs, t, hoc, hdc, hvc⟩, _⟩ := I.hok c _ hc
  have rc : codeAny (model X.prog X.w) A (.call (.ref f) ⟨[u], []⟩) (CR (L2.CX X.prog X.w) X.stack X.prog X.w H s Q fun _ _ _ => False) s := by
    refine call_fun_expr hdep ho rfl L.co L.gen rfl rfl hoc hdc hvc ?_
    rw [hbind]
    refine wpAny_pure (wpAny_newFunctionEnv L.cell (fun y hy => by rw [List.mem_singleton.mp hy]; exact L.par) (fun h1 hns hsb => ⟨I.nolimit.fresh _ hsb, ?_⟩) L.kind)
    show codeAny _ _ (.expr body (lamE X n scope s.heap.objs.size f c)) _ _
    have kp : ∀ b o, s.heap.get? b = some o → h1.get? b = some o := fun b o e => hsb.extBut b o (Nat.ne_of_lt (Heap.lt_size e)) (Heap.get?_push_of_some _ e)
    have J := lam_enter (A := A) (f := f) (c := c) (q := n) (tk := s.toks + [(x, u)].length) I L hN hp fr hd rel hns kp
    refine PySem.W.kla_codeExpr (wpAny_mono ((hb A s H n f c (hr _ _ _ _)).run [] _ _ H Q J h) (fun w s1 hq => ?_) fun e s1 hq => hq)
    obtain ⟨w2, H2, J2, rv, g⟩ := hq
    exact ⟨w2, H2, J2.os, J2.bare, J2.base, J2.hok, rv, g⟩
  refine wpAny_call (codeAny_mono rc fun r s1 hq => ?_)
  cases r with
  | error e =>
    obtain ⟨_, _, _, _, _, _, _, _, _, _, _, _, z⟩ := hq
    exact z.elim
  | ok fl =>
    cases fl with
    | ret u => exact hq
    | next => exact False.elim hq
    | brk => exact False.elim hq
    | cont => exact False.elim hq
end
end PD

set_option Elab.async false
set_option linter.all false
set_option maxRecDepth 100000
set_option maxHeartbeats 1000000
namespace PD
open PySem PySem.Spec PyProof.Rows L2

/-! ### min(xs, key=lambda x: ..) -/
theorem PlX.at {h h' : Heap} {tp : Bool} {a : Addr} {its : Array Value} (p : PlX h tp a its) (e : ∀ o, h.get? a = some o → h'.get? a = some o) : PlX h' tp a its := by
  cases tp with
  | true => exact Heap.IsTuple.at p e
  | false => exact Heap.IsList.at p e
theorem walksX {prog : Program} {w : World} {A : Around} (hh : A.handled = none) (tp : Bool) {it a : Addr} (ne : a ≠ it) (xs : List V) :
    WalksS prog w A it [it, a] [it] (fun a b => b = a) xs.length (fun i v => ∃ x, xs[i]? = some x ∧ RelV x v) (fun i s => ItX s.heap tp it a i ∧ ∃ its, Vals xs its ∧ PlX s.heap tp a its.toArray) where
  sub := fun b hb => by rw [List.mem_singleton.mp hb]; exact List.mem_cons_self
  grefl := fun _ => rfl
  gtrans := fun _ _ _ h1 h2 => h2.trans h1
  frame := fun i s h' tk ⟨h1, its, rv, p⟩ _ k => ⟨h1.at fun o e => k it List.mem_cons_self o e, its, rv, p.at fun o e => k a (List.mem_cons_of_mem _ List.mem_cons_self) o e⟩
  item := fun i s Q E hi ⟨h1, its, rv, p⟩ hQ => by
    obtain ⟨u, hu, ru⟩ := rv.get (List.getElem?_eq_getElem hi)
    have hu2 : its.toArray[i]? = some u := by rw [List.getElem?_toArray]; exact hu
    have mv : ∀ h', Heap.SameBut it s.heap h' → Moved [it] (fun a b => b = a) s { s with heap := h' } := fun h' sb => ⟨fun b o hb e => sb.extBut b o (fun z => hb (by rw [z]; exact List.mem_cons_self)) e, rfl, rfl, rfl, Nat.le_refl _⟩
    have fin : ∀ h', ItX h' tp it a (i + 1) → Heap.SameBut it s.heap h' → Q (some u) { s with heap := h' } := fun h' h2 sb =>
      hQ u _ ⟨_, List.getElem?_eq_getElem hi, ru⟩ ⟨h2, its, rv, p.at fun o e => sb.extBut a o ne e⟩ (mv h' sb)
    cases tp with
    | true => exact wpAny_pyNext_tuple_item h1 p hu2 fin
    | false => exact wpAny_pyNext_list_item h1 p hu2 fin
  done := fun s Q E ⟨h1, its, rv, p⟩ hQ => by
    have hn : its.toArray[xs.length]? = none := by
      rw [List.getElem?_toArray, List.getElem?_eq_none]
      exact Nat.le_of_eq rv.length.symm
    have fin : ∀ h', Heap.ExtBut it s.heap h' → Q none { s with heap := h' } := fun h' eb => hQ _ ⟨fun b o hb e => eb b o (fun z => hb (by rw [z]; exact List.mem_cons_self)) e, rfl, rfl, rfl, Nat.le_refl _⟩
    cases tp with
    | true => exact wpAny_pyNext_tuple_end hh h1 p hn fin
    | false => exact wpAny_pyNext_list_end hh h1 p hn fin
  self := fun i s Q E ⟨h1, _⟩ h => by
    cases tp with
    | true => exact wpAny_pyIter_tupleiter h1 h
    | false => exact wpAny_pyIter_listiter h1 h
theorem room_lam {X : Cx} {k : Nat} (hr : Room (k + 3) X.A) (q : Str) (scope : Scope) (L f c : Addr) : Room k (X.A.in1.deeper (lamE X q scope L f c)) := ⟨hr.hd, by have := hr.dp; show X.A.depth + 1 + 3 * k + 5 < _; omega, by have := hr.un; show X.A.units + 1 + 3 + 16 * k + 200 < _; omega⟩
/-- the least item by the lambda's answers; the first one of equal ones -/
def tMinL (X : Cx) (P : Addr) (params : Arguments) (body : Expr) (scope : Scope) (p : Nat) (ta : TA) (tb : TE) : TE := fun σ H Q => ta σ H fun vs H1 => TabC H1 P ∧ ∀ f c n H2, TabbedC P H1 H2 → H2 f = none → H2 c = some (LamX.CodeO c n) →
  ∃ (tp : Bool) (a : Addr) (xs : List V) (JH : Hp → Prop) (key : Nat → Int), vs = [.ref a] ∧ 0 < xs.length ∧ JH (upd H2 f (FunO (X.env.qual ++ "<lambda>") params body scope (cloFrom X.env.cells scope.names []) c f)) ∧
    (∀ H', JH H' → SqX X.K H' tp a xs ∧ H' f = some (FunO (X.env.qual ++ "<lambda>") params body scope (cloFrom X.env.cells scope.names []) c f) ∧ H' c = some (LamX.CodeO c n)) ∧
    (∀ i x H', JH H' → xs[i]? = some x → tb (σ.set p (some x)) H' fun y H'' => y = .int (key i) ∧ JH H'') ∧
    ∀ x H', JH H' → xs[argBest (fun i j => decide (key i < key j)) (xs.length - 1)]? = some x → Q x H'
theorem pe_minL {X : Cx} {P c0 : Addr} {e : Expr} {k p : Nat} {ta : TA} {tb : TE} {params : Arguments} {body : Expr} {scope : Scope} {x : Str} {pos lpos pm kpos : Pos} (hr : Room (k + 3) X.A) (hg : Gl X "min") (hm : X.mg "min" = none) (TB : GxR.TabB X.base X.mg c0 P) (hcode : X.env.code = .ref c0) (hc : X.calm = true) (hN : X.N.Nodup)
    (L : LamS1 X.env.scope scope x) (hp : X.N[p]? = some x) (hdef : defaultsOf params X.env = ([], [])) (hbind : ∀ q cl pm cv ct u, bindArgs (PySem.W.kla_fn "<lambda>" q params body scope cl pm cv ct) ⟨[u], []⟩ = pure [(x, u)]) (ha : PA X [e] ta)
    (hb : ∀ (A : Around) (s : Shared) (H : Hp) (q : Str) (f c : Addr), Room k (A.deeper (lamE X q scope s.heap.objs.size f c)) → PE (lamX X A s H scope q f c) body tb)
    (hs : backTo pos (starEach [e] X.env) = (false, eval e X.env) :: backTo pos (starEach [] X.env) := by rfl) (hpl : (backTo pos (starEach [e] X.env)).any (·.1) = false := by rfl)
    (hall : (backToKw pos (keywordEach [⟨some "key", .Lambda params body scope lpos, kpos⟩] X.env)).all (·.1.isSome) = true := by rfl) (hnone : (backToKw pos (keywordEach [⟨some "key", .Lambda params body scope lpos, kpos⟩] X.env)).any (·.1.isNone) = false := by rfl)
    (hks : (backToKw pos (keywordEach [⟨some "key", .Lambda params body scope lpos, kpos⟩] X.env)).filterMap (·.1) = [Str.ofString "key"] := by rfl) :
    PE X (.Call (.Name "min" pm) [e] [⟨some "key", .Lambda params body scope lpos, kpos⟩] pos) (tMinL X P params body scope p ta tb) := by
  refine ⟨fun pins s σ H Q I h => ?_⟩
  have hk : PK X [⟨some "key", .Lambda params body scope lpos, kpos⟩] _ := pk_cons (pe_lam1 TB hcode L hdef) pk_nil
  refine wpAny_Call_Name_kw (ld_blt I hg hm boot_min ?_ (by decide) (by decide))
  refine PyProof.Rows.callWith_kw (thn (ha.run pos pins s σ H _ I h) fun us s1 ⟨vs, H1, I1, r1, tab, q1⟩ => thn (hk.run pos pins s1 σ H1 (fun zs H2 => ∃ f c n Hb, TabbedC P H1 Hb ∧ Hb f = none ∧ Hb c = some (LamX.CodeO c n) ∧ zs = [.ref f] ∧ H2 = upd Hb f (FunO (X.env.qual ++ "<lambda>") params body scope (cloFrom X.env.cells scope.names []) c f)) I1 ⟨tab, fun f c n Hb tb nf hco => ⟨f, c, n, Hb, tb, nf, hco, rfl, rfl⟩⟩) fun ws s2 ⟨zs, H2, I2, r2, f, c, n, Hb, tbd, nf, hco, ez, eH⟩ => ?_) hs hpl hall hnone
  rw [hks]
  subst ez eH
  obtain ⟨tp, a, xs, JH, key, ev, hn, j0, facts, turn, fin⟩ := q1 f c n Hb tbd nf hco
  subst ev
  cases r1 with
  | cons ra rr =>
    cases rr
    cases ra
    cases r2 with
    | cons rf rr =>
      cases rr
      cases rf
      obtain ⟨hq2, _, _⟩ := facts _ j0
      obtain ⟨its0, rv0, p0⟩ := sqX_read I2 hq2
      have hh : X.A.handled = none := I2.ok.hd hc
      refine call_min_walkK ((beginsX tp a its0.toArray).iter X.prog X.w X.A.in1 X.xe s2 _ p0 ?_)
      have la : a < s2.heap.objs.size := p0.lt
      have hit : (s2.heap.push (itO tp a)).get? s2.heap.objs.size = some (itO tp a) := Heap.get?_push_size _ (by cases tp <;> rfl)
      have sz3 : (s2.heap.push (itO tp a)).objs.size = s2.heap.objs.size + 1 := Heap.size_push ..
      have I3 : Inv X pins σ (upd Hb f (FunO (X.env.qual ++ "<lambda>") params body scope (cloFrom X.env.cells scope.names []) c f)) { s2 with heap := s2.heap.push (itO tp a) } := I2.kept (t' := s2.toks) fun b o e => Heap.get?_push_of_some _ e
      have nit := I2.hok.fresh (Nat.le_refl s2.heap.objs.size)
      have nS := I3.hok.fresh (Nat.le_refl (s2.heap.push (itO tp a)).objs.size)
      have oit := stack_out I2 (Nat.le_refl s2.heap.objs.size)
      have oS := stack_out I3 (Nat.le_refl (s2.heap.push (itO tp a)).objs.size)
      have fit := I2.fpOk (Nat.le_refl s2.heap.objs.size) nit
      have fS := I3.fpOk (Nat.le_refl (s2.heap.push (itO tp a)).objs.size) nS
      refine ⟨s2.heap.objs.size, [s2.heap.objs.size, a], [s2.heap.objs.size], _, xs.length, _, _, fun s => ∃ H', Inv X pins σ H' s ∧ JH H' ∧ H' s2.heap.objs.size = none ∧ H' (s2.heap.push (itO tp a)).objs.size = none, fun i v s => ∃ t, v = .int (key i) t, fun i j => decide (key i < key j), rfl, walksX (A := X.A.in1) hh tp (Nat.ne_of_lt la) xs, ⟨itX_new hit, its0, rv0, p0.at fun o e => Heap.get?_push_of_some _ e⟩, fun b hb => ?_, hn, ?_, ⟨_, I3, j0, nit, nS⟩, ?_⟩
      · rw [sz3]
        rcases List.mem_cons.mp hb with z | z
        · rw [z]; exact Nat.lt_succ_self _
        · rw [List.mem_singleton.mp z]; exact Nat.lt_succ_of_lt la
      · refine ⟨fun s s' ⟨H', I', j, n1, n2⟩ mv => ⟨H', ?_, j, n1, n2⟩, fun i k s s' v mv => v, fun i v s o Q' E' hi ⟨x', hx', rx'⟩ ⟨H', I', j, n1, n2⟩ ⟨h1, its, rv, pl⟩ hS hQ => ?_, fun i j ki kj s Q' E' _ ⟨t, e1⟩ ⟨t2, e2⟩ hQ => ?_⟩
        · obtain ⟨h', g', d', t', o'⟩ := s'
          obtain ⟨m1, m2, m3, m4, m5⟩ := mv
          cases (show g' = s.gens from m2)
          cases (show d' = s.drawn from m3)
          cases (show o' = s.os from m4)
          refine I'.turnedL (ch := [(s2.heap.push (itO tp a)).objs.size, s2.heap.objs.size]) (fun b o hb e => m1 b o hb e) fun b hb => ?_
          rcases List.mem_cons.mp hb with z | z
          · rw [z]; exact ⟨n2, fS.2⟩
          · rw [List.mem_singleton.mp z]; exact ⟨n1, fit.2⟩
        · obtain ⟨hq', hf', hc'⟩ := facts _ j
          have tn := turn i x' H' j hx'
          refine wpAny_mono (lam_call (k := k) (A := X.A.in1) I' L hN hp I'.ok.frames hh (show X.A.depth < recursionLimit by have := hr.dp; omega) (fun _ _ _ _ => room_lam hr _ _ _ _ _) hf' hc' (fun pm ct => hbind _ _ _ _ _ _) hb rx' tn) (fun kv s' ce => ?_) fun _ _ z => z
          obtain ⟨y, H'', os, bare, un, hok, ry, ey, j2⟩ := ce
          subst ey
          obtain ⟨t, rfl⟩ := _root_.id ry
          have I'' : Inv X pins σ H'' s' := I'.call' (ch := []) os un hok bare fun b z => absurd z (by simp)
          obtain ⟨oo, hoo, _⟩ := h1.obj
          have ex : ∀ b : Addr, b ∉ ([] : List Addr) := fun b => by simp
          have gS := un.keep _ o hS n2 oS (ex _)
          obtain ⟨hq'', _, _⟩ := facts _ j2
          obtain ⟨its2, rv2, pl2⟩ := sqX_read I'' hq''
          exact hQ _ s' ⟨H'', I'', j2, un.free _ oo hoo n1 (ex _), un.free _ o hS n2 (ex _)⟩ ⟨h1.at fun o2 e => un.keep _ o2 e n1 oit (ex _), its2, rv2, pl2⟩ gS ⟨t, rfl⟩ fun j k' v => v
        · subst e1 e2
          exact (CmpOf.ints_lt (P := fun i v => ∃ t, v = .int (key i) t) key fun i v h => h) i j _ _ s Q' E' ⟨t, rfl⟩ ⟨t2, rfl⟩ hQ
      · rintro v s' ⟨x', hx', rx'⟩ ⟨H', I', j, n1, n2⟩
        exact ⟨x', H', I', rx', fin x' H' j hx'⟩
def keysGo (p : Nat) (fe : Dn) (ρ : Rho) : List PyData → R (List Int)
  | [] => .ok []
  | d :: ds => nx (fe (ρ.set p (some (.d d)))) fun y => match y with
    | .int k => nx (keysGo p fe ρ ds) fun ks => .ok (k :: ks)
    | _ => .bad
def pickBest (ds : List PyData) (ks : List Int) : R PyData := match ds[argBest (fun i j => decide (ks.getD i 0 < ks.getD j 0)) (ds.length - 1)]? with
  | some d => .ok d
  | none => .bad
def minLA (p : Nat) (fe : Dn) (ρ : Rho) : List PyData → R PyData
  | [d] => items d >>= fun ds => nx (keysGo p fe ρ ds) fun ks => pickBest ds ks
  | _ => .bad
def dMinL (g : DnL) (p : Nat) (fe : Dn) : Dn := fun ρ => g ρ >>= minLA p fe ρ
theorem keysGo_get {p : Nat} {fe : Dn} {ρ : Rho} : ∀ {ds : List PyData} {ks : List Int} {i : Nat} {d : PyData}, keysGo p fe ρ ds = .ok ks → ds[i]? = some d → fe (ρ.set p (some (.d d))) = .ok (.int (ks.getD i 0))
  | [], ks, i, d, _, h => by simp at h
  | e :: ds, ks, i, d, q, h => by
    unfold keysGo at q
    obtain ⟨y, e1, q⟩ := nx_ok q
    split at q
    · obtain ⟨r, e2, q⟩ := nx_ok q
      cases q
      cases i with
      | zero => cases h; exact e1
      | succ i =>
        have := keysGo_get e2 (show ds[i]? = some d from by simpa using h)
        simpa using this
    · cases q
theorem fd_minL {X : Cx} {Tb : List Addr} {W : WX} {P c0 : Addr} {e : Expr} {k p : Nat} {g : DnL} {fe : Dn} {params : Arguments} {body : Expr} {scope : Scope} {x : Str} {pos lpos pm kpos : Pos} (hr : Room (k + 3) X.A) (hP : P ∈ Tb) (TB : GxR.TabB X.base X.mg c0 P) (hcode : X.env.code = .ref c0) (hc : X.calm = true) (hN : X.N.Nodup)
    (hp : X.N[p]? = some x) (L : lamS1B X.env.scope scope x = true) (hdef : defaultsOf params X.env = ([], [])) (hbind : ∀ q cl pm cv ct u, bindArgs (PySem.W.kla_fn "<lambda>" q params body scope cl pm cv ct) ⟨[u], []⟩ = pure [(x, u)]) (ha : PA X [e] (tDs X.K Tb W g))
    (hb : ∀ (A : Around) (s : Shared) (H : Hp) (q : Str) (f c : Addr), Room k (A.deeper (lamE X q scope s.heap.objs.size f c)) → PE (lamX X A s H scope q f c) body (tD X.K Tb W0 fe)) (hm : X.mg "min" = none) (hg : Gl X "min" := by rfl)
    (hs : backTo pos (starEach [e] X.env) = (false, eval e X.env) :: backTo pos (starEach [] X.env) := by rfl) (hpl : (backTo pos (starEach [e] X.env)).any (·.1) = false := by rfl)
    (hall : (backToKw pos (keywordEach [⟨some "key", .Lambda params body scope lpos, kpos⟩] X.env)).all (·.1.isSome) = true := by rfl) (hnone : (backToKw pos (keywordEach [⟨some "key", .Lambda params body scope lpos, kpos⟩] X.env)).any (·.1.isNone) = false := by rfl)
    (hks : (backToKw pos (keywordEach [⟨some "key", .Lambda params body scope lpos, kpos⟩] X.env)).filterMap (·.1) = [Str.ofString "key"] := by rfl) :
    PE X (.Call (.Name "min" pm) [e] [⟨some "key", .Lambda params body scope lpos, kpos⟩] pos) (tD X.K Tb W (dMinL g p fe)) :=
  (pe_minL hr hg hm TB hcode hc hN (lamS1_by L) hp hdef hbind ha hb hs hpl hall hnone hks).by fun σ H Q ⟨H0, O0, O, ρ, st, h⟩ => ⟨H0, O0, O, ρ, st, by
  refine Post.then h fun vs us H1 ex r kk => ?_
  have st1 := st.step ex
  refine ⟨st1.tab P hP, fun f c n H2 tb nf hco => ?_⟩
  unfold minLA at kk
  split at kk
  · rename_i d
    cases r with
    | cons r1 r2 =>
      cases r2
      cases hi : items d with
      | bad => rw [hi] at kk; exact kk.elim
      | exc z => exact absurd hi items_no
      | ok ds =>
        rw [hi] at kk
        obtain ⟨tp, a, xs, rfl, h1, z1, a1⟩ := rp_items r1 hi
        cases hk : keysGo p fe ρ ds with
        | bad => rw [R.bind_ok, hk] at kk; exact kk.elim
        | exc z => rw [R.bind_ok, hk] at kk; exact kk.elim
        | ok ks =>
          rw [R.bind_ok, hk] at kk
          have kk : Post X.K O (RlD X.K O) (fun c d H => W c d σ H) H1 (pickBest ds ks) Q := kk
          unfold pickBest at kk
          split at kk
          · rename_i d1 hd1
            have e12 : Ext H1 H2 := Ext.tabbed (st1.tab P hP) tb
            have e1f : Ext H1 (upd H2 f (FunO (X.env.qual ++ "<lambda>") params body scope (cloFrom X.env.cells scope.names []) c f)) := e12.trans (Ext.new nf)
            have fo : ∀ ps, FunO (X.env.qual ++ "<lambda>") params body scope (cloFrom X.env.cells scope.names []) c f ≠ .tbl ps := fun ps z => by unfold FunO at z; cases z
            have ncf : c ≠ f := ne_of_none hco nf
            refine ⟨tp, a, xs, fun H' => St0 X.K Tb H0 O0 O H' σ ρ ∧ Ext (upd H2 f (FunO (X.env.qual ++ "<lambda>") params body scope (cloFrom X.env.cells scope.names []) c f)) H', fun i => ks.getD i 0, rfl, ?_, ⟨st1.step e1f, Ext.refl _⟩, fun H' ⟨s', e'⟩ => ⟨(h1.step Sub.unhide).step (Sub.ext (e1f.trans e')), e'.keep f _ upd_same fo, e'.keep c _ (by rw [upd_ne ncf]; exact hco) codeO_tbl⟩, fun i x' H' ⟨s', e'⟩ hx => ?_, fun x' H' ⟨s', e'⟩ hx => ?_⟩
            · obtain ⟨lt, _⟩ := List.getElem?_eq_some_iff.mp hd1
              rw [a1.length]
              omega
            · obtain ⟨d2, g1, g2⟩ := a1.get hx
              have g3 := g2.mono (Sub.hide (e1f.trans e').keep)
              refine ⟨H0, O0, O, ρ.set p (some (.d d2)), s'.set g3, ?_⟩
              rw [keysGo_get hk g1]
              intro y H'' e2 ry
              cases ry
              exact ⟨rfl, s'.step e2, e'.trans e2⟩
            · rw [a1.length] at hx
              obtain ⟨d2, g1, g2⟩ := a1.get hx
              rw [hd1] at g1
              cases g1
              exact kk x' H' (e1f.trans e') (g2.mono (Sub.hide (e1f.trans e').keep))
          · exact kk.elim
  · exact kk.elim⟩
end PD

set_option Elab.async false
set_option linter.all false
set_option maxRecDepth 100000
set_option maxHeartbeats 1000000
namespace PD
open PySem PySem.Spec PyProof.Rows L2

/-! ### comprehensions of two clauses -/
def lc2Go (t : Tg) (ft : DnB) (fi1 : DnL) (t1 : Tg) (ft1 : DnB) (fe : Dn) (vs1 : List Nat) (ρ : Rho) : List PyData → R (List PyData)
  | [] => .ok []
  | d :: ds => match t.set d ρ with
    | some ρ1 => nx (ft ρ1) fun b => if b = true then nx (fi1 ρ1) fun es => nx (lcGo t1 ft1 fe (wipeR ρ1 vs1) es) fun ys => nx (lc2Go t ft fi1 t1 ft1 fe vs1 ρ ds) fun zs => .ok (ys ++ zs) else lc2Go t ft fi1 t1 ft1 fe vs1 ρ ds
    | none => .bad
def dLc2 (fi : DnL) (t : Tg) (ft : DnB) (fi1 : DnL) (t1 : Tg) (ft1 : DnB) (fe : Dn) (vs vs1 : List Nat) : Dn := fun ρ => fi ρ >>= fun ds => nx (lc2Go t ft fi1 t1 ft1 fe vs1 (wipeR ρ vs) ds) fun ys => if ys.length ≤ sizeLine then .ok (.list ys) else .bad
theorem ext_past {Hb H H' : Hp} {D : Addr} (e : Ext Hb H) (n : Hb D = none) (pl : ∀ c q, H D ≠ some (LamX.CodeO c q)) (e2 : Ext (hide [D] H) H') : Ext Hb H' := by
  have out : ∀ b, b ≠ D → hide [D] H b = H b := fun b h => hide_out (by simpa using h)
  refine ⟨fun b o h t => ?_, fun b t => ?_, fun b h => ?_⟩
  · exact e2.keep b o (by rw [out b (ne_of_none h n)]; exact e.keep b o h t) t
  · have hb : b ≠ D := tabG_ne t fun ps q => by rw [n] at q; cases q
    exact e2.tab b ((e.tab b t).mono (fun ps h => by rw [out b hb]; exact h) fun c q h => by rw [out c fun z => pl c q (by rw [← z]; exact h)]; exact h)
  · have hb : b ≠ D := fun z => h (by rw [z]; exact n)
    exact e2.al b (by rw [out b hb]; exact e.al b h)
mutual
theorem tg_own {i : Nat} {s : Sl} (hs : s.Hold) : ∀ {t : Tg} {d : PyData} {ρ ρ1 : Rho}, ρ1[i]? = some (some s) → t.set d ρ = some ρ1 → ρ[i]? = some (some s)
  | .nm j, d, ρ, ρ1, h, e => by
    unfold Tg.set at e
    cases e
    by_cases hj : j = i
    · subst hj
      by_cases hl : j < ρ.length
      · rw [List.getElem?_set_self hl] at h; cases h; exact hs.elim
      · rw [List.getElem?_eq_none (by rw [List.length_set]; omega)] at h; cases h
    · rw [List.getElem?_set_ne hj] at h; exact h
  | .tp ts, d, ρ, ρ1, h, e => by
    unfold Tg.set at e
    split at e
    · exact tgs_own hs h e
    · cases e
theorem tgs_own {i : Nat} {s : Sl} (hs : s.Hold) : ∀ {ts : List Tg} {ds : List PyData} {ρ ρ1 : Rho}, ρ1[i]? = some (some s) → Tg.sets ts ds ρ = some ρ1 → ρ[i]? = some (some s)
  | [], [], ρ, ρ1, h, e => by
    unfold Tg.sets at e
    cases e
    exact h
  | t :: ts, d :: ds, ρ, ρ1, h, e => by
    unfold Tg.sets at e
    cases e1 : t.set d ρ with
    | none => rw [e1] at e; cases e
    | some ρ2 =>
      rw [e1] at e
      exact tg_own hs (tgs_own hs h e) e1
  | [], d :: ds, ρ, ρ1, h, e => by unfold Tg.sets at e; cases e
  | t :: ts, [], ρ, ρ1, h, e => by unfold Tg.sets at e; cases e
end
section
variable {K : PySem.W.Frag} {Tb : List Addr}
/-- the turns of the inner clause: what it makes goes behind acc0 at D -/
theorem in_turns {t : Tg} {ft : DnB} {fe : Dn} {vs : List Nat} {σ σB : L2.St} {ρ ρB : Rho} {H0 H1 : Hp} {O0 O : List Addr} {J : It} {D : Addr} {ds ys acc0 : List PyData} {l0 : List V} {Nx : Hp → Prop} (hv : ∀ i ∈ t.ixs, i ∈ vs) (mD : D ∈ O) (mD0 : D ∉ O0)
    (own : ∀ (i : Nat) (s : Sl), s.Hold → ρ[i]? = some (some s) → σ[i]? ≠ some (some (.ref D))) (ownB : ∀ (i : Nat) (s : Sl), s.Hold → ρB[i]? = some (some s) → σB[i]? ≠ some (some (.ref D)))
    (stA : St0 K Tb H0 O0 O H1 σ ρ) (stB : St0 K Tb H0 O0 O H1 σB ρB) (it : ItD K (hide O H1) J ds) (hys : lcGo t ft fe (wipeR ρ vs) ds = .ok ys) (hD0 : H1 D = some (.lst l0)) (r0 : RpAll K (hide O H1) l0 acc0) (zl : acc0.length + ys.length ≤ sizeLine)
    (fin : ∀ l H', St0 K Tb H0 O0 O H' σB ρB → Ext (hide [D] H1) H' → H' D = some (.lst l) → RpAll K (hide O H') l (acc0 ++ ys) → Nx H') :
    ∃ W1 : Nat → Nat → Hp → Prop, (∃ m, W1 0 m H1) ∧ ∀ j k H, W1 j k H → (J.stop j H ∧ Nx H) ∨ (J.go j H ∧ ∃ Nx1 : Hp → Prop, (∀ H', Nx1 H' → ∃ k', k' < k ∧ W1 (j + 1) k' H') ∧ ∀ x H', J.yld j H x H' → tG K Tb t x (L2.wipe σ vs) H' fun σ3 H5 => L2.wipe σ3 vs = L2.wipe σ vs ∧ tDT K Tb W0 ft σ3 H5 fun b H6 =>
      if b = true then tD K Tb W0 fe σ3 H6 fun y H7 => ∃ acc, H7 D = some (.lst acc) ∧ acc.length < sizeLine ∧ Nx1 (upd H7 D (.lst (acc ++ [y]))) else Nx1 H6) := by
  have stw := stA.wiped vs
  have ownW : ∀ (i : Nat) (s : Sl), s.Hold → (wipeR ρ vs)[i]? = some (some s) → (L2.wipe σ vs)[i]? ≠ some (some (.ref D)) := fun i xs hs h1 h2 => by
    obtain ⟨g1, g2⟩ := wipeR_some h1
    rw [wipe_out g2] at h2
    exact own i xs hs g1 h2
  have nO : ∀ b ∈ O, hide O H1 b = none := fun b hb => hide_in hb
  have eO : Ext (hide O H1) (hide [D] H1) := by
    have sub : ∀ b o, hide O H1 b = some o → hide [D] H1 b = some o := fun b o h => by
      obtain ⟨h1, h2⟩ := hide_some h
      rw [hide_out (by simp only [List.mem_singleton]; exact fun z => h1 (by rw [z]; exact mD))]
      exact h2
    refine ⟨fun b o h _ => sub b o h, fun b t => t.mono (fun ps h => sub b _ h) fun c q h => sub c _ h, fun b h => ?_⟩
    cases q : hide O H1 b with
    | none => exact absurd q h
    | some x => rw [sub b x q]; simp
  have nD : hide [D] H1 D = none := hide_in (by simp)
  refine ⟨fun i m H' => i ≤ ds.length ∧ m = ds.length - i ∧ ∃ l done rest, St0 K Tb H0 O0 O H' (L2.wipe σ vs) (wipeR ρ vs) ∧ St0 K Tb H0 O0 O H' σB ρB ∧ Ext (hide [D] H1) H' ∧ H' D = some (.lst l) ∧ RpAll K (hide O H') l (acc0 ++ done) ∧ lcGo t ft fe (wipeR ρ vs) (ds.drop i) = .ok rest ∧ done ++ rest = ys,
    ⟨ds.length, Nat.zero_le _, by simp, l0, [], ys, stw, stB, Ext.unhide, hD0, by simpa using r0, hys, rfl⟩, ?_⟩
  rintro i m H' ⟨hi, rfl, l, done, rest, s1, sB, e1, hD, ra, go, ey⟩
  have eG : Ext (hide O H1) H' := eO.trans e1
  by_cases hlt : i < ds.length
  · refine .inr ⟨it.go i H' eG hlt, fun H2 => i + 1 ≤ ds.length ∧ ∃ l done rest, St0 K Tb H0 O0 O H2 (L2.wipe σ vs) (wipeR ρ vs) ∧ St0 K Tb H0 O0 O H2 σB ρB ∧ Ext (hide [D] H1) H2 ∧ H2 D = some (.lst l) ∧ RpAll K (hide O H2) l (acc0 ++ done) ∧ lcGo t ft fe (wipeR ρ vs) (ds.drop (i + 1)) = .ok rest ∧ done ++ rest = ys,
      fun H2 q => ⟨ds.length - (i + 1), by omega, q.1, rfl, q.2⟩, fun x H2 y => ?_⟩
    obtain ⟨e2, d, hd, rx⟩ := it.yld i H' O x H2 eG nO s1.al hlt y
    have hdr : ds.drop i = d :: ds.drop (i + 1) := by
      obtain ⟨hl, hd'⟩ := List.getElem?_eq_some_iff.mp hd
      rw [List.drop_eq_getElem_cons hl, hd']
    rw [hdr] at go
    unfold lcGo at go
    cases et : t.set d (wipeR ρ vs) with
    | none => rw [et] at go; cases go
    | some ρ1 =>
      rw [et] at go
      obtain ⟨b, eb, go⟩ := nx_ok go
      have s2 := s1.step e2
      refine ⟨H0, O0, O, wipeR ρ vs, ρ1, d, s2, rx, et, fun σ' st' ag => ⟨(ag.wipe hv).trans wipe_wipe, H0, O0, O, ρ1, st', ?_⟩⟩
      rw [eb]
      intro b' H3 e3 r3
      cases (show b' = b from r3)
      have s3 := st'.step e3
      have keepD : ∀ {G : Hp}, Ext H' G → G D = some (.lst l) := fun e => e.keep D _ hD (fun _ q => by cases q)
      cases b with
      | false => exact ⟨hlt, l, done, rest, s2.step e3, sB.step (e2.trans e3), e1.trans (e2.trans e3), keepD (e2.trans e3), ra.mono (Sub.hide (e2.trans e3).keep), go, ey⟩
      | true =>
        obtain ⟨yd, ey1, go⟩ := nx_ok go
        obtain ⟨rs, er, go⟩ := nx_ok go
        cases go
        refine ⟨H0, O0, O, ρ1, s3, ?_⟩
        rw [ey1]
        intro y H4 e4 r4
        have e24 := (e2.trans e3).trans e4
        have hD4 := keepD e24
        have s4 := (s2.step e3).step e4
        have sB4 := sB.step e24
        have lz : l.length < sizeLine := by
          have h1 := ra.length
          have h2 := congrArg List.length ey
          simp only [List.length_append, List.length_cons] at h1 h2
          omega
        refine ⟨l, hD4, lz, hlt, l ++ [y], done ++ [yd], rs, s4.hid mD mD0 hD4 ownW, sB4.hid mD mD0 hD4 ownB, (e1.trans e24).updN nD (fun c q z => (plain_lst l).1 c q (Option.some.inj (hD4.symm.trans z))), upd_same, ?_, er, ?_⟩
        · rw [hide_upd mD, ← List.append_assoc]
          exact (ra.mono (Sub.hide e24.keep)).append (.one r4)
        · rw [List.append_assoc]; exact ey
  · have ei : i = ds.length := by omega
    subst ei
    refine .inl ⟨it.stop H' eG, ?_⟩
    rw [List.drop_length] at go
    cases go
    rw [List.append_nil] at ey
    subst ey
    exact fin l H' sB e1 hD ra
theorem lc2_walk {W : WX} {t t1 : Tg} {ft ft1 : DnB} {fe : Dn} {fi fi1 : DnL} {vs vs1 : List Nat} {σ : L2.St} {H : Hp} {Q : VK} (hv : ∀ i ∈ t.ixs, i ∈ vs) (hv1 : ∀ i ∈ t1.ixs, i ∈ vs1) (h : tD K Tb W (dLc2 fi t ft fi1 t1 ft1 fe vs vs1) σ H Q) :
    tLc2 (tI K Tb W fi) (tG K Tb t) (tDT K Tb W0 ft) (tI K Tb W0 fi1) (tG K Tb t1) (tDT K Tb W0 ft1) (tD K Tb W0 fe) vs vs1 σ H Q := by
  obtain ⟨H0, O0, O, ρ, st, h⟩ := h
  refine ⟨H0, O0, O, ρ, st, Post.then h fun ds J H1 e it k => ?_⟩
  cases q : lc2Go t ft fi1 t1 ft1 fe vs1 (wipeR ρ vs) ds with
  | exc x => rw [q] at k; exact k.elim
  | bad => rw [q] at k; exact k.elim
  | ok ys =>
    rw [q, nx_ok'] at k
    split at k
    case isFalse => exact k.elim
    rename_i hz
    intro D nD
    have st1 := st.step e
    have aD : D ∉ O := st1.fresh nD
    have stw := (st1.wiped vs).more (o := .lst []) nD (plain_lst [])
    have aD0 : D ∉ O0 := fun m => aD (st1.sub D m)
    have own : ∀ (i : Nat) (s : Sl), s.Hold → (wipeR ρ vs)[i]? = some (some s) → (L2.wipe σ vs)[i]? ≠ some (some (.ref D)) := fun i s hs h1 h2 => aD ((st1.wiped vs).hold hs h1 h2).1
    have nO : ∀ b ∈ D :: O, hide O H1 b = none := fun b hb => by
      rcases List.mem_cons.mp hb with rfl | hb
      · exact hide_none nD
      · exact hide_in hb
    refine ⟨fun i m H' => i ≤ ds.length ∧ m = ds.length - i ∧ ∃ l done rest, St0 K Tb H0 O0 (D :: O) H' (L2.wipe σ vs) (wipeR ρ vs) ∧ Ext H1 H' ∧ H' D = some (.lst l) ∧ RpAll K (hide (D :: O) H') l done ∧ lc2Go t ft fi1 t1 ft1 fe vs1 (wipeR ρ vs) (ds.drop i) = .ok rest ∧ done ++ rest = ys,
      ⟨ds.length, Nat.zero_le _, by simp, [], [], ys, stw, Ext.new nD, upd_same, .nil, q, rfl⟩, ?_⟩
    rintro i m H' ⟨hi, rfl, l, done, rest, s1, e1, hD, ra, go, ey⟩
    have eG : Ext (hide O H1) H' := Ext.unhide.trans e1
    by_cases hlt : i < ds.length
    · refine .inr ⟨it.go i H' eG hlt, fun H2 => i + 1 ≤ ds.length ∧ ∃ l done rest, St0 K Tb H0 O0 (D :: O) H2 (L2.wipe σ vs) (wipeR ρ vs) ∧ Ext H1 H2 ∧ H2 D = some (.lst l) ∧ RpAll K (hide (D :: O) H2) l done ∧ lc2Go t ft fi1 t1 ft1 fe vs1 (wipeR ρ vs) (ds.drop (i + 1)) = .ok rest ∧ done ++ rest = ys,
        fun H2 q => ⟨ds.length - (i + 1), by omega, q.1, rfl, q.2⟩, fun x H2 y => ?_⟩
      obtain ⟨e2, d, hd, rx⟩ := it.yld i H' (D :: O) x H2 eG nO s1.al hlt y
      have hdr : ds.drop i = d :: ds.drop (i + 1) := by
        obtain ⟨hl, hd'⟩ := List.getElem?_eq_some_iff.mp hd
        rw [List.drop_eq_getElem_cons hl, hd']
      rw [hdr] at go
      unfold lc2Go at go
      cases et : t.set d (wipeR ρ vs) with
      | none => rw [et] at go; cases go
      | some ρ1 =>
        rw [et] at go
        obtain ⟨b, eb, go⟩ := nx_ok go
        have s2 := s1.step e2
        refine ⟨H0, O0, D :: O, wipeR ρ vs, ρ1, d, s2, rx, et, fun σ2 st2 ag => ⟨(ag.wipe hv).trans wipe_wipe, H0, O0, D :: O, ρ1, st2, ?_⟩⟩
        rw [eb]
        intro b' H3 e3 r3
        cases (show b' = b from r3)
        have s3 := st2.step e3
        have keepD : ∀ {G : Hp}, Ext H' G → G D = some (.lst l) := fun e => e.keep D _ hD (fun _ q => by cases q)
        cases b with
        | false => exact ⟨hlt, l, done, rest, s2.step e3, e1.trans (e2.trans e3), keepD (e2.trans e3), ra.mono (Sub.hide (e2.trans e3).keep), go, ey⟩
        | true =>
          obtain ⟨es, ee, go⟩ := nx_ok go
          obtain ⟨ys1, ey1, go⟩ := nx_ok go
          obtain ⟨zs, ez, go⟩ := nx_ok go
          cases go
          refine ⟨H0, O0, D :: O, ρ1, s3, ?_⟩
          rw [ee]
          intro J1 H4 e4 it1
          have e24 := (e2.trans e3).trans e4
          have hD4 := keepD e24
          have s4 := s3.step e4
          have sB := (s2.step e3).step e4
          have own1 : ∀ (i : Nat) (s : Sl), s.Hold → ρ1[i]? = some (some s) → σ2[i]? ≠ some (some (.ref D)) := fun i xs hs h1 h2 => by
            have g1 := tg_own hs h1 et
            obtain ⟨_, g2⟩ := wipeR_some g1
            rw [ag.2 i fun m => g2 (hv i m)] at h2
            exact own i xs hs g1 h2
          refine in_turns (acc0 := done) hv1 List.mem_cons_self aD0 own1 own s4 sB it1 ey1 hD4 (ra.mono (Sub.hide e24.keep)) ?_ fun l' H5 sB5 e5 hD5 r5 => ?_
          · have h2 := congrArg List.length ey
            simp only [List.length_append] at h2
            omega
          · refine ⟨hlt, l', done ++ ys1, zs, sB5, ext_past (e1.trans e24) nD (fun c q z => (plain_lst l).1 c q (Option.some.inj (hD4.symm.trans z))) e5, hD5, r5, ez, ?_⟩
            rw [List.append_assoc]; exact ey
    · have ei : i = ds.length := by omega
      subst ei
      refine .inl ⟨it.stop H' eG, ?_⟩
      rw [List.drop_length] at go
      cases go
      rw [List.append_nil] at ey
      subst ey
      exact k _ H' e1 (.lst (.of (by rw [hide_out aD]; exact hD)) hz (ra.mono (Sub.less fun b hb => List.mem_cons_of_mem _ hb)))
end
section
variable {X : Cx} {Tb : List Addr} {W : WX}
theorem fd_lc2 {elt tg iter tg1 iter1 : Expr} {ifs ifs1 : List Expr} {scope : Scope} {own : List (Str × Nat)} {vs1 : List Nat} {pos : Pos} {fi fi1 : DnL} {t t1 : Tg} {ft ft1 : DnB} {fe : Dn} (hc : X.calm = true) (hN : X.N.Nodup) (hi : PI X tg iter (tI X.K Tb W fi)) (ok : BlkOk X.N X.env.scope scope own)
    (hg : ∀ (s : Shared) (H : Hp) (C : Addr) (cl : List (Str × Addr)) (fp : List Addr), PG (X.blk s H scope (compEnvC scope cl C X.env) fp) tg (tG X.K Tb t))
    (ht : ∀ (s : Shared) (H : Hp) (C : Addr) (cl : List (Str × Addr)) (fp : List Addr), PTs (X.blk s H scope (compEnvC scope cl C X.env) fp) ifs (tDT X.K Tb W0 ft))
    (hi1 : ∀ (s : Shared) (H : Hp) (C : Addr) (cl : List (Str × Addr)) (fp : List Addr), PI (X.blk s H scope (compEnvC scope cl C X.env) fp) tg1 iter1 (tI X.K Tb W0 fi1))
    (hg1 : ∀ (s : Shared) (H : Hp) (C : Addr) (cl : List (Str × Addr)) (fp : List Addr), PG (X.blk s H scope (compEnvC scope cl C X.env) fp) tg1 (tG X.K Tb t1))
    (ht1 : ∀ (s : Shared) (H : Hp) (C : Addr) (cl : List (Str × Addr)) (fp : List Addr), PTs (X.blk s H scope (compEnvC scope cl C X.env) fp) ifs1 (tDT X.K Tb W0 ft1))
    (he : ∀ (s : Shared) (H : Hp) (C : Addr) (cl : List (Str × Addr)) (fp : List Addr), PE (X.blk s H scope (compEnvC scope cl C X.env) fp) elt (tD X.K Tb W0 fe))
    (hvv : ∀ i ∈ vs1, i ∈ own.map (·.2) := by decide) (hv : ∀ i ∈ t.ixs, i ∈ own.map (·.2) := by decide) (hv1 : ∀ i ∈ t1.ixs, i ∈ vs1 := by decide) (hs : ∀ x, foldedSetIterable iter X.env x = pure x := by intro _; rfl) (hs1 : ∀ env x, foldedSetIterable iter1 env x = pure x := by intro _ _; rfl) :
    PE X (.ListComp elt [⟨tg, iter, ifs, 0⟩, ⟨tg1, iter1, ifs1, 0⟩] scope pos) (tD X.K Tb W (dLc2 fi t ft fi1 t1 ft1 fe (own.map (·.2)) vs1)) :=
  (pe_lc2 hc hN hi ok hvv hg ht hi1 hg1 ht1 he hs hs1).by fun σ H Q h => lc2_walk hv hv1 h
theorem fs_setLc2 {i : Nat} {y : Str} {py : Pos} {elt tg iter tg1 iter1 : Expr} {ifs ifs1 : List Expr} {scope : Scope} {own : List (Str × Nat)} {vs1 : List Nat} {pos spos : Pos} {fi fi1 : DnL} {t t1 : Tg} {ft ft1 : DnB} {fe : Dn} (hc : X.calm = true) (hN : X.N.Nodup) (hy : X.N[i]? = some y) (hyl : X.env.scope.names.lookup y = some .local)
    (hsw : swapsWith (.ListComp elt [⟨tg, iter, ifs, 0⟩, ⟨tg1, iter1, ifs1, 0⟩] scope pos) (some (.Name y py)) spos.line X.env = pure true) (hi : PI X tg iter (tI X.K Tb W fi)) (ok : BlkOk X.N X.env.scope scope own)
    (hg : ∀ (s : Shared) (H : Hp) (C : Addr) (cl : List (Str × Addr)) (fp : List Addr), PG (X.blk s H scope (compEnvC scope cl C X.env) fp) tg (tG X.K Tb t))
    (ht : ∀ (s : Shared) (H : Hp) (C : Addr) (cl : List (Str × Addr)) (fp : List Addr), PTs (X.blk s H scope (compEnvC scope cl C X.env) fp) ifs (tDT X.K Tb W0 ft))
    (hi1 : ∀ (s : Shared) (H : Hp) (C : Addr) (cl : List (Str × Addr)) (fp : List Addr), PI (X.blk s H scope (compEnvC scope cl C X.env) fp) tg1 iter1 (tI X.K Tb W0 fi1))
    (hg1 : ∀ (s : Shared) (H : Hp) (C : Addr) (cl : List (Str × Addr)) (fp : List Addr), PG (X.blk s H scope (compEnvC scope cl C X.env) fp) tg1 (tG X.K Tb t1))
    (ht1 : ∀ (s : Shared) (H : Hp) (C : Addr) (cl : List (Str × Addr)) (fp : List Addr), PTs (X.blk s H scope (compEnvC scope cl C X.env) fp) ifs1 (tDT X.K Tb W0 ft1))
    (he : ∀ (s : Shared) (H : Hp) (C : Addr) (cl : List (Str × Addr)) (fp : List Addr), PE (X.blk s H scope (compEnvC scope cl C X.env) fp) elt (tD X.K Tb W0 fe))
    (hvv : ∀ i ∈ vs1, i ∈ own.map (·.2) := by decide) (hv : ∀ i ∈ t.ixs, i ∈ own.map (·.2) := by decide) (hv1 : ∀ i ∈ t1.ixs, i ∈ vs1 := by decide) (hs : ∀ x, foldedSetIterable iter X.env x = pure x := by intro _; rfl) (hs1 : ∀ env x, foldedSetIterable iter1 env x = pure x := by intro _ _; rfl) :
    PS X (.Assign [.Name y py] (.ListComp elt [⟨tg, iter, ifs, 0⟩, ⟨tg1, iter1, ifs1, 0⟩] scope pos) spos) (tS X.K Tb W (gSet (dLc2 fi t ft fi1 t1 ft1 fe (own.map (·.2)) vs1) (.nm i))) :=
  (ps_setLc2 hc hN hy hyl hsw hi ok hvv hg ht hi1 hg1 ht1 he hs hs1).by fun D σ H ⟨H0, O0, O, ρ, st, h⟩ => lc2_walk (W := W) (Q := fun x H1 => gName i x σ H1 D.nx) hv hv1 ⟨H0, O0, O, ρ, st, oR_post st h fun d v H1 e r k => by
    unfold Tg.set at k
    exact k O _ H1 ((st.step e).set r)⟩
end
end PD

set_option Elab.async false
set_option linter.all false
set_option maxRecDepth 100000
set_option maxHeartbeats 1000000
namespace PD
open PySem PySem.Spec PyProof.Rows L2

/-! ### own[i] = e, own[i] += e -/
theorem pget_list {X : Cx} : PGet X (rIxL X.K) := by
  intro pins s σ H o i ov iv Q I ro ri h
  obtain ⟨p, xs, k, z, rfl, rfl, hq, he, q⟩ := h
  cases ro
  obtain ⟨t, rfl⟩ := ri
  obtain ⟨its, r, pl, hz⟩ := I.list hq
  obtain ⟨j, h1, h2, h3, h4, h5⟩ := atI_get he
  obtain ⟨w, ew, rw'⟩ := r.get h2
  have hl := r.length
  have hn := line63
  have fin : EP X pins σ Q w s := ⟨z, H, I, rw', q⟩
  by_cases h0 : 0 ≤ k
  · have hj : k.toNat = j := by
      rw [seqIndex_of h0 h5] at h1
      exact Option.some.inj h1
    exact wpAny_getItem_list pl.isList h0 (by omega) (by rw [hj]; simpa using ew) fin
  · have hj : (k + (its.toArray.size : Int)).toNat = j := by
      rw [seqIndex_neg (by omega) h4] at h1
      rw [List.size_toArray, ← hl]
      exact Option.some.inj h1
    exact wpAny_getItem_list_neg pl.isList (by omega) (by rw [List.size_toArray] <;> omega) (by omega) (by rw [hj]; simpa using ew) fin
def gSetAt (i : Nat) (fi fe : Dn) : Sn := fun ρ => oR (fe ρ) ρ fun y => ownAt ρ i fun ds => match fi ρ with
  | .ok (.int k) => match ixN ds.length k with
    | some j => .nx (ρ.set i (some (.own (ds.set j y))))
    | none => .bad
  | _ => .bad
def gAugAt (i : Nat) (fi fe : Dn) : Sn := fun ρ => ownAt ρ i fun ds => match fi ρ with
  | .ok (.int k) => match fe ρ with
    | .ok (.int y) => match ixN ds.length k with
      | some j => match ds[j]? with
        | some (.int z) => .nx (ρ.set i (some (.own (ds.set j (.int (z + y))))))
        | _ => .bad
      | none => .bad
    | _ => .bad
  | _ => .bad
section
variable {X : Cx} {Tb : List Addr} {W : WX} {e ei : Expr} {f g : Dn} {pos npos spos : Pos} {x : Str}
theorem fs_setAt {i : Nat} (ho : X.N[i]? = some x) (hv : Vis X.env.scope x) (hd : (x == ("__debug__" : Str)) = false) (hcd : (x == ("__classdict__" : Str)) = false) (hi : PE X ei (tD X.K Tb W f)) (he : PE X e (tD X.K Tb W g))
    (ha : ∀ v, assign (.Subscript (.Name x npos) ei spos) X.env v = (do
      let ov ← holding [v] (eval (.Name x npos) X.env)
      let iv ← holding [v, ov] (eval ei X.env)
      standAt spos
      holding [v, ov, iv] (setItem ov iv v)
      release [v, ov, iv] []) := by intro _; rfl)
    (hs : swapsWithSole [.Subscript (.Name x npos) ei spos] e pos.line X.env = pure false := by rfl) (hw : swappedStores [.Subscript (.Name x npos) ei spos] e X.env = pure none := by rfl)
    (h1 : (assignEach [.Subscript (.Name x npos) ei spos] X.env).map (·.2) = [assign (.Subscript (.Name x npos) ei spos) X.env] := by rfl) :
    PS X (.Assign [.Subscript (.Name x npos) ei spos] e pos) (tS X.K Tb W (gSetAt i f g)) :=
  (ps_asg he (pg_sub (pe_var ho hv hd hcd) hi set_list ha) hs hw h1).by fun D σ H ⟨H0, O0, O, ρ, st, h⟩ => ⟨H0, O0, O, ρ, st, oR_post st h fun y v H1 ex rv k => by
    have st1 := st.step ex
    obtain ⟨ds, p, vs, e1, e2, hp, z, r, k⟩ := own_at st1 k
    refine ⟨.ref p, e2, H0, O0, O, ρ, st1, ?_⟩
    split at k
    · rename_i kk hf
      rw [hf]
      intro kv H2 ex2 rk
      cases rk
      split at k
      · rename_i j hj
        refine ⟨p, vs, kk, j, rfl, rfl, ex2.keep p _ hp (fun _ q => by cases q), by rw [r.length]; exact hj, k O σ _ ((st1.step ex2).ownSet e1 e2 (by rw [List.length_set]; exact z) ?_)⟩
        exact (r.mono (Sub.hide ex2.keep)).set (rv.mono (Sub.hide ex2.keep)) j
      · exact k.elim
    · exact k.elim⟩
theorem fs_augAt {i : Nat} (ho : X.N[i]? = some x) (hv : Vis X.env.scope x) (hd : (x == ("__debug__" : Str)) = false) (hcd : (x == ("__classdict__" : Str)) = false) (hi : PE X ei (tD X.K Tb W f)) (he : PE X e (tD X.K Tb W g))
    (ha : ∀ ov iv new, augStore ei ov iv new = (do holding [new, ov, iv] (setItem ov iv new); release [new, ov, iv] []; pure .next) := by intros; rfl) :
    PS X (.AugAssign (.Subscript (.Name x npos) ei spos) .Add e pos) (tS X.K Tb W (gAugAt i f g)) :=
  (ps_augS (pe_var ho hv hd hcd) hi pget_list he ip_add set_list ha).by fun D σ H ⟨H0, O0, O, ρ, st, h⟩ => by
    obtain ⟨ds, p, vs, e1, e2, hp, z, r, k⟩ := own_at st h
    refine ⟨.ref p, e2, H0, O0, O, ρ, st, ?_⟩
    split at k
    · rename_i kk hf
      rw [hf]
      intro kv H2 ex2 rk
      cases rk
      split at k
      · rename_i yy hg
        split at k
        · rename_i j hj
          split at k
          · rename_i zz hz
            have hp2 := ex2.keep p _ hp (fun _ q => by cases q)
            obtain ⟨v, g1, g2⟩ := r.get' hz
            cases g2
            refine ⟨p, vs, kk, .int zz, rfl, rfl, .of hp2, by unfold atI; rw [r.length, hj]; exact g1, H0, O0, O, ρ, st.step ex2, ?_⟩
            rw [hg]
            intro y' H3 ex3 ry
            cases ry
            refine ⟨zz, yy, rfl, rfl, p, vs, kk, j, rfl, rfl, ex3.keep p _ hp2 (fun _ q => by cases q), by rw [r.length]; exact hj, k O σ _ ((st.step (ex2.trans ex3)).ownSet e1 e2 (by rw [List.length_set]; exact z) ?_)⟩
            exact (r.mono (Sub.hide (ex2.trans ex3).keep)).set (.int _) j
          · exact k.elim
        · exact k.elim
      · exact k.elim
    · exact k.elim
end
end PD

set_option Elab.async false
set_option linter.all false
set_option maxRecDepth 100000
set_option maxHeartbeats 4000000
namespace LW
open PySem PySem.Spec PyProof.Rows L2 PD
def b_law_draws_1 : Sn := (gIf (dAnd (dAsB (dVar 3)) (dAsB (dTwo oGt (dVar 2) (dC (.int 0))))) (gSeq (gApp 5 (dTwo oMod (dArg bInt (dCons (dVar 2) dNil)) (dC (.int 5040)))) (gSet (dTwo oDiv (dVar 2) (dC (.int 5040))) (.nm 2))) (gSeq (gSet (dTwo oMod (dArg bInt (dCons (dTwo oAdd (dTwo oAdd (dTwo oMul (dVar 4) (dC (.int 48271))) (dTwo oMul (dTwo oAdd (dVar 6) (dC (.int 1))) (dC (.int 69621)))) (dC (.int 11))) dNil)) (dC (.int 2147483647))) (.nm 7)) (gSeq (gSet (dTwo oMod (dArg bInt (dCons (dTwo oAdd (dTwo oMul (dVar 7) (dVar 7)) (dTwo oMul (dC (.int 40692)) (dTwo oAdd (dVar 6) (dC (.int 3))))) dNil)) (dC (.int 2147483399))) (.nm 7)) (gApp 5 (dTwo oMod (dArg bInt (dCons (dTwo oDiv (dVar 7) (dC (.int 64))) dNil)) (dC (.int 5040)))))))
def g_law_draws : Sn := (gSeq (gSet (dArg bAbs (dCons (dArg bInt (dCons (dVar 0) dNil)) dNil)) (.nm 2)) (gSeq (gSet (dTwo oGe (dVar 2) (dTwo oPow (dC (.int 10)) (dC (.int 18)))) (.nm 3)) (gSeq (gSet (dVar 2) (.nm 4)) (gSeq (gOwn (dLst dNil) 5) (gSeq (gFor (dRng1 (dCons (dVar 1) dNil)) (.nm 6) b_law_draws_1) (gFrz 5 (gRet (dVar 5))))))))
def m_law_draws : List PyData → R PyData := runD 8 2 g_law_draws
def g_law_cell : Sn := (gSeq (gIf (dAsB (dTwo oLt (dVar 1) (dArg bLen (dCons (dVar 0) dNil)))) (gRet (dTwo oIx (dVar 0) (dVar 1))) gSkip) (gRet (dTwo oAdd (dTwo oMul (dC (.int 5)) (dVar 1)) (dC (.int 3)))))
def m_law_cell : List PyData → R PyData := runD 2 2 g_law_cell
def b_law_parts_of_1 : Sn := (gSet (dTwo oAdd (dVar 1) (dLc (dItems (dVar 1)) (.nm 3) dYes (dTwo oAdd (dVar 3) (dTup (dCons (dVar 2) dNil))) [3])) (.nm 1))
def g_law_parts_of : Sn := (gSeq (gSet (dLst (dCons (dTup dNil) dNil)) (.nm 1)) (gSeq (gFor (dRng1 (dCons (dVar 0) dNil)) (.nm 2) b_law_parts_of_1) (gRet (dArg bSorted (dCons (dVar 1) dNil)))))
def m_law_parts_of : List PyData → R PyData := runD 4 1 g_law_parts_of
def g_law_rest : Sn := (gRet (dArg bTuple (dCons (dLc (dRng1 (dCons (dVar 1) dNil)) (.nm 2) (dAsB (dTwo oNotIn (dVar 2) (dVar 0))) (dVar 2) [2]) dNil)))
def m_law_rest : List PyData → R PyData := runD 3 2 g_law_rest
def g_law_count : Sn := (gRet (dArg bLen (dCons (dLc (dItems (dVar 0)) (.nm 3) (dAsB (dTwo oEq (dTwo oIx (dVar 1) (dVar 3)) (dVar 2))) (dVar 3) [3]) dNil)))
def m_law_count : List PyData → R PyData := runD 4 3 g_law_count
def b_law_smooth_lots_1 : Sn := (gIf (dAsB (dArg bAll (dCons (dLc (dRng1 (dCons (dC (.int 3)) dNil)) (.nm 10) dYes (dTwo oLe (dArg m_law_count (dCons (dVar 6) (dCons (dVar 3) (dCons (dVar 10) dNil)))) (dTwo oIx (dVar 4) (dVar 10))) [10]) dNil))) (gApp 5 (dVar 6)) gSkip)
def g_law_smooth_lots : Sn := (gSeq (gSet (dArg m_law_draws (dCons (dVar 0) (dCons (dTwo oAdd (dC (.int 3)) (dVar 1)) dNil))) (.nm 2)) (gSeq (gSet (dLc (dRng1 (dCons (dVar 1) dNil)) (.nm 9) dYes (dTwo oMod (dArg bInt (dCons (dTwo oIx (dVar 2) (dTwo oAdd (dC (.int 3)) (dVar 9))) dNil)) (dC (.int 3))) [9]) (.nm 3)) (gSeq (gSet (dLst (dCons (dTwo oAdd (dC (.int 1)) (dTwo oMod (dArg bInt (dCons (dTwo oIx (dVar 2) (dC (.int 1))) dNil)) (dC (.int 2)))) (dCons (dTwo oAdd (dC (.int 1)) (dTwo oMod (dTwo oDiv (dArg bInt (dCons (dTwo oIx (dVar 2) (dC (.int 1))) dNil)) (dC (.int 2))) (dC (.int 2)))) (dCons (dTwo oMod (dTwo oDiv (dArg bInt (dCons (dTwo oIx (dVar 2) (dC (.int 1))) dNil)) (dC (.int 4))) (dC (.int 3))) dNil)))) (.nm 4)) (gSeq (gOwn (dLst dNil) 5) (gSeq (gFor (dItems (dArg m_law_parts_of (dCons (dVar 1) dNil))) (.nm 6) b_law_smooth_lots_1) (gFrz 5 (gSeq (gSet (dArg bMin2 (dCons (dArg bMax (dCons (dLc (dItems (dVar 5)) (.nm 6) dYes (dArg bLen (dCons (dVar 6) dNil)) [6]) dNil)) (dCons (dTwo oIx (dTup (dCons (dC (.int 2)) (dCons (dC (.int 1)) (dCons (dC (.int 2)) (dCons (dC (.int 3)) (dCons (dC (.int 2)) (dCons (dC (.int 1)) (dCons (dC (.int 3)) (dCons (dC (.int 0)) dNil))))))))) (dTwo oMod (dArg bInt (dCons (dTwo oIx (dVar 2) (dC (.int 0))) dNil)) (dC (.int 8)))) dNil))) (.nm 7)) (gSeq (gSet (dLc (dItems (dVar 5)) (.nm 6) (dAsB (dTwo oEq (dArg bLen (dCons (dVar 6) dNil)) (dVar 7))) (dVar 6) [6]) (.nm 8)) (gSeq (gIf (dAsB (dTwo oEq (dTwo oMod (dArg bInt (dCons (dTwo oIx (dVar 2) (dC (.int 2))) dNil)) (dC (.int 3))) (dC (.int 1)))) (gSet (dArg bSorted (dCons (dLc (dItems (dVar 8)) (.nm 6) dYes (dArg m_law_rest (dCons (dVar 6) (dCons (dVar 1) dNil))) [6]) dNil)) (.nm 8)) gSkip) (gRet (dArg bTuple (dCons (dVar 8) dNil))))))))))))
def m_law_smooth_lots : List PyData → R PyData := runD 11 2 g_law_smooth_lots
def g_law_within : Sn := (gRet (dArg bAll (dCons (dLc (dItems (dVar 0)) (.nm 2) dYes (dTwo oIn (dVar 2) (dVar 1)) [2]) dNil)))
def m_law_within : List PyData → R PyData := runD 3 2 g_law_within
def b_law_antichain_1 : Sn := (gIf (dThawB (dAnd (dAsB (dTwo oNotIn (dVar 2) (dVar 1))) (dNot (dAsB (dArg bAny (dCons (dLc (dItems (dVar 0)) (.nm 3) dYes (dAndV (dTwo oNe (dVar 2) (dVar 3)) (dArg m_law_within (dCons (dVar 2) (dCons (dVar 3) dNil)))) [3]) dNil)))))) (gApp 1 (dVar 2)) gSkip)
def g_law_antichain : Sn := (gSeq (gOwn (dLst dNil) 1) (gSeq (gFor (dItems (dArg bSorted (dCons (dVar 0) dNil))) (.nm 2) b_law_antichain_1) (gFrz 1 (gRet (dArg bTuple (dCons (dVar 1) dNil))))))
def m_law_antichain : List PyData → R PyData := runD 4 1 g_law_antichain
def g_law_any_lots : Sn := (gSeq (gSet (dArg m_law_draws (dCons (dVar 0) (dCons (dC (.int 7)) dNil))) (.nm 2)) (gSeq (gSet (dArg m_law_parts_of (dCons (dVar 1) dNil)) (.nm 3)) (gSeq (gSet (dLc (dRng1 (dCons (dTwo oAdd (dC (.int 1)) (dTwo oMod (dArg bInt (dCons (dTwo oIx (dVar 2) (dC (.int 0))) dNil)) (dC (.int 6)))) dNil)) (.nm 5) dYes (dTwo oIx (dVar 3) (dTwo oMod (dArg bInt (dCons (dTwo oIx (dVar 2) (dTwo oAdd (dC (.int 1)) (dVar 5))) dNil)) (dArg bLen (dCons (dVar 3) dNil)))) [5]) (.nm 4)) (gRet (dArg m_law_antichain (dCons (dVar 4) dNil))))))
def m_law_any_lots : List PyData → R PyData := runD 6 2 g_law_any_lots
def g_law_lots : Sn := (gSeq (gIf (dAsB (dTwo oEq (dTwo oMod (dTwo oDiv (dArg bInt (dCons (dTwo oIx (dArg m_law_draws (dCons (dVar 0) (dCons (dC (.int 3)) dNil))) (dC (.int 2))) dNil)) (dC (.int 3))) (dC (.int 2))) (dC (.int 0)))) (gRet (dArg m_law_smooth_lots (dCons (dVar 0) (dCons (dVar 1) dNil)))) gSkip) (gRet (dArg m_law_any_lots (dCons (dVar 0) (dCons (dVar 1) dNil)))))
def m_law_lots : List PyData → R PyData := runD 2 2 g_law_lots
def g_closed_up : Sn := (gRet (dArg bTuple (dCons (dLc (dItems (dVar 0)) (.nm 2) dYes (dIf (dAsB (dTwo oGt (dVar 2) (dVar 1))) (dTwo oSub (dVar 2) (dC (.int 1))) (dVar 2)) [2]) dNil)))
def m_closed_up : List PyData → R PyData := runD 3 2 g_closed_up
def g_leave_out : Sn := (gRet (dArg bTuple (dCons (dLc (dItems (dVar 0)) (.nm 2) (dAsB (dTwo oNe (dVar 2) (dVar 1))) (dVar 2) [2]) dNil)))
def m_leave_out : List PyData → R PyData := runD 3 2 g_leave_out
def g_without_thing : Sn := (gRet (dArg bTuple (dCons (dArg bSorted (dCons (dLc (dItems (dVar 0)) (.nm 2) dYes (dArg m_closed_up (dCons (dArg m_leave_out (dCons (dVar 2) (dCons (dVar 1) dNil))) (dCons (dVar 1) dNil))) [2]) dNil)) dNil)))
def m_without_thing : List PyData → R PyData := runD 3 2 g_without_thing
def g_without : Sn := (gSeq (gSet (dVar 0) (.tp [(.nm 2), (.nm 3)])) (gSeq (gSet (dLc (dItems (dVar 3)) (.nm 5) (dAsB (dTwo oNotIn (dVar 1) (dVar 5))) (dVar 5) [5]) (.nm 4)) (gRet (dTup (dCons (dTwo oSub (dVar 2) (dC (.int 1))) (dCons (dArg m_without_thing (dCons (dIf (dAsB (dTwo oGt (dArg bLen (dCons (dVar 4) dNil)) (dC (.int 0)))) (dVar 4) (dVar 3)) (dCons (dVar 1) dNil))) dNil))))))
def m_without : List PyData → R PyData := runD 6 2 g_without
def g_holding : Sn := (gSeq (gSet (dVar 0) (.tp [(.nm 2), (.nm 3)])) (gSeq (gSet (dLc (dItems (dVar 3)) (.nm 5) (dAsB (dTwo oIn (dVar 1) (dVar 5))) (dVar 5) [5]) (.nm 4)) (gRet (dTup (dCons (dTwo oSub (dVar 2) (dC (.int 1))) (dCons (dArg m_without_thing (dCons (dIf (dAsB (dTwo oGt (dArg bLen (dCons (dVar 4) dNil)) (dC (.int 0)))) (dVar 4) (dVar 3)) (dCons (dVar 1) dNil))) dNil))))))
def m_holding : List PyData → R PyData := runD 6 2 g_holding
def g_law_is_integer : Sn := (gRet (dAndV (dOne (oIsi "int") (dVar 0)) (dNotV (dOne (oIsi "bool") (dVar 0)))))
def m_law_is_integer : List PyData → R PyData := runD 1 1 g_law_is_integer
def b_law_is_set_1 : Sn := (gSeq (gIf (dOr (dNot (dAsB (dArg m_law_is_integer (dCons (dTwo oIx (dVar 0) (dVar 2)) dNil)))) (dOr (dAsB (dTwo oLt (dTwo oIx (dVar 0) (dVar 2)) (dC (.int 0)))) (dAsB (dTwo oGe (dTwo oIx (dVar 0) (dVar 2)) (dVar 1))))) (gRet (dC (.bool false))) gSkip) (gIf (dAnd (dAsB (dTwo oGt (dVar 2) (dC (.int 0)))) (dAsB (dTwo oLe (dTwo oIx (dVar 0) (dVar 2)) (dTwo oIx (dVar 0) (dTwo oSub (dVar 2) (dC (.int 1))))))) (gRet (dC (.bool false))) gSkip))
def g_law_is_set : Sn := (gSeq (gIf (dNot (dAsB (dOne (oIsi "tuple") (dVar 0)))) (gRet (dC (.bool false))) gSkip) (gSeq (gFor (dRng1 (dCons (dArg bLen (dCons (dVar 0) dNil)) dNil)) (.nm 2) b_law_is_set_1) (gRet (dC (.bool true)))))
def m_law_is_set : List PyData → R PyData := runD 3 2 g_law_is_set
def b_law_is_some_offer_1 : Sn := (gIf (dOr (dNot (dAsB (dArg m_law_is_set (dCons (dTwo oIx (dTwo oIx (dVar 0) (dC (.int 1))) (dVar 2)) (dCons (dVar 1) dNil))))) (dAnd (dAsB (dTwo oGt (dVar 2) (dC (.int 0)))) (dAsB (dTwo oLeT (dTwo oIx (dTwo oIx (dVar 0) (dC (.int 1))) (dVar 2)) (dTwo oIx (dTwo oIx (dVar 0) (dC (.int 1))) (dTwo oSub (dVar 2) (dC (.int 1)))))))) (gRet (dC (.bool false))) gSkip)
def g_law_is_some_offer : Sn := (gSeq (gIf (dOr (dNot (dAsB (dOne (oIsi "tuple") (dVar 0)))) (dOr (dAsB (dTwo oNe (dArg bLen (dCons (dVar 0) dNil)) (dC (.int 2)))) (dOr (dNot (dAsB (dArg m_law_is_integer (dCons (dTwo oIx (dVar 0) (dC (.int 0))) dNil)))) (dAsB (dTwo oNe (dTwo oIx (dVar 0) (dC (.int 0))) (dVar 1)))))) (gRet (dC (.bool false))) gSkip) (gSeq (gIf (dOr (dNot (dAsB (dOne (oIsi "tuple") (dTwo oIx (dVar 0) (dC (.int 1)))))) (dAsB (dTwo oEq (dArg bLen (dCons (dTwo oIx (dVar 0) (dC (.int 1))) dNil)) (dC (.int 0))))) (gRet (dC (.bool false))) gSkip) (gSeq (gFor (dRng1 (dCons (dArg bLen (dCons (dTwo oIx (dVar 0) (dC (.int 1))) dNil)) dNil)) (.nm 2) b_law_is_some_offer_1) (gRet (dC (.bool true))))))
def m_law_is_some_offer : List PyData → R PyData := runD 3 2 g_law_is_some_offer
def g_law_exchanged : Sn := (gRet (dArg bTuple (dCons (dArg bSorted (dCons (dTwo oAdd (dLc (dItems (dVar 0)) (.nm 3) (dAsB (dTwo oNe (dVar 3) (dVar 1))) (dVar 3) [3]) (dLst (dCons (dVar 2) dNil))) dNil)) dNil)))
def m_law_exchanged : List PyData → R PyData := runD 4 3 g_law_exchanged
def b_law_fault_1 : Sn := (gIf (dAsB (dTwo oNotIn (dVar 2) (dVar 3))) (gSeq (gSet (dLc (dItems (dVar 3)) (.nm 5) (dAsB (dTwo oNotIn (dVar 5) (dVar 1))) (dVar 5) [5]) (.nm 4)) (gIf (dNot (dAsB (dArg bAny (dCons (dLc (dItems (dVar 4)) (.nm 5) dYes (dTwo oIn (dArg m_law_exchanged (dCons (dVar 1) (dCons (dVar 2) (dCons (dVar 5) dNil)))) (dVar 0)) [5]) dNil)))) (gRet (dTup (dCons (dVar 1) (dCons (dVar 2) (dCons (dVar 3) dNil))))) gSkip)) gSkip)
def b_law_fault_2 : Sn := (gFor (dItems (dVar 0)) (.nm 3) b_law_fault_1)
def b_law_fault_3 : Sn := (gFor (dItems (dVar 1)) (.nm 2) b_law_fault_2)
def g_law_fault : Sn := (gSeq (gFor (dItems (dVar 0)) (.nm 1) b_law_fault_3) (gRet (dC .none)))
def m_law_fault : List PyData → R PyData := runD 6 1 g_law_fault
def g_known_lots : Sn := (gRet (dDc (dItems (dTwo oIx (dVar 0) (dC (.int 1)))) (.nm 1) dYes (dVar 1) [1]))
def m_known_lots : List PyData → R PyData := runD 2 1 g_known_lots
def g_difference : Sn := (gRet (dArg bTuple (dCons (dLc (dItems (dVar 0)) (.nm 2) (dAsB (dTwo oNotIn (dVar 2) (dVar 1))) (dVar 2) [2]) dNil)))
def m_difference : List PyData → R PyData := runD 3 2 g_difference
def g_things_missing : Sn := (gRet (dArg m_difference (dCons (dOne bTupR1 (dVar 0)) (dCons (dVar 1) dNil))))
def m_things_missing : List PyData → R PyData := runD 2 2 g_things_missing
def g_put_in : Sn := (gRet (dArg bTuple (dCons (dArg bSorted (dCons (dTwo oAdd (dVar 0) (dTup (dCons (dVar 1) dNil))) dNil)) dNil)))
def m_put_in : List PyData → R PyData := runD 2 2 g_put_in
def g_exchange : Sn := (gRet (dArg m_put_in (dCons (dArg m_leave_out (dCons (dVar 0) (dCons (dVar 1) dNil))) (dCons (dVar 2) dNil))))
def m_exchange : List PyData → R PyData := runD 3 3 g_exchange
def g_replacements : Sn := (gSeq (gSet (dArg m_things_missing (dCons (dTwo oIx (dVar 0) (dC (.int 0))) (dCons (dVar 2) dNil))) (.nm 4)) (gRet (dLc (dItems (dVar 4)) (.nm 5) (dAsB (dTwo oInT (dArg m_exchange (dCons (dVar 2) (dCons (dVar 3) (dCons (dVar 5) dNil)))) (dVar 1))) (dVar 5) [5])))
def m_replacements : List PyData → R PyData := runD 6 4 g_replacements
def b_first_fault_1 : Sn := (gIf (dAnd (dAsB (dTwo oNotIn (dVar 4) (dVar 6))) (dNot (dAsB (dAnyG true (dItems (dVar 6)) (.nm 7) dYes (dTwo oIn (dVar 7) (dVar 5)) [7])))) (gRet (dTup (dCons (dVar 3) (dCons (dVar 4) (dCons (dVar 6) dNil))))) gSkip)
def b_first_fault_2 : Sn := (gSeq (gSet (dArg m_replacements (dCons (dVar 0) (dCons (dVar 2) (dCons (dVar 3) (dCons (dVar 4) dNil))))) (.nm 5)) (gFor (dItems (dVar 1)) (.nm 6) b_first_fault_1))
def b_first_fault_3 : Sn := (gFor (dItems (dVar 3)) (.nm 4) b_first_fault_2)
def g_first_fault : Sn := (gSeq (gSet (dTwo oIx (dVar 0) (dC (.int 1))) (.nm 1)) (gSeq (gSet (dArg m_known_lots (dCons (dVar 0) dNil)) (.nm 2)) (gSeq (gFor (dItems (dVar 1)) (.nm 3) b_first_fault_3) (gRet (dC .none)))))
def m_first_fault : List PyData → R PyData := runD 8 1 g_first_fault
def g_is_smooth : Sn := (gRet (dOne (fun d => .ok (.bool (isNone d))) (dArg m_first_fault (dCons (dVar 0) dNil))))
def m_is_smooth : List PyData → R PyData := runD 1 1 g_is_smooth
def g_law_opened : Sn := (gRet (dArg bTuple (dCons (dTwo oAdd (dLc (dItems (dVar 0)) (.nm 2) (dAsB (dTwo oLt (dVar 2) (dVar 1))) (dVar 2) [2]) (dLc (dItems (dVar 0)) (.nm 2) (dAsB (dTwo oGe (dVar 2) (dVar 1))) (dTwo oAdd (dVar 2) (dC (.int 1))) [2])) dNil)))
def m_law_opened : List PyData → R PyData := runD 3 2 g_law_opened
def g_law_rank : Sn := (gRet (dArg bMax (dCons (dLc (dItems (dVar 1)) (.nm 2) dYes (dArg bLen (dCons (dLc (dItems (dVar 2)) (.nm 3) (dAsB (dTwo oIn (dVar 3) (dVar 0))) (dVar 3) [3]) dNil)) [2]) dNil)))
def m_law_rank : List PyData → R PyData := runD 4 2 g_law_rank
def b_law_ranks_fit_1 : Sn := (gSeq (gSet (dArg m_law_opened (dCons (dVar 4) (dCons (dVar 1) dNil))) (.nm 5)) (gSeq (gIf (dAsB (dTwo oNe (dArg m_law_rank (dCons (dVar 4) (dCons (dTwo oIx (dVar 2) (dC (.int 1))) dNil))) (dArg m_law_rank (dCons (dVar 5) (dCons (dTwo oIx (dVar 0) (dC (.int 1))) dNil))))) (gRet (dC (.bool false))) gSkip) (gIf (dAsB (dTwo oNe (dArg m_law_rank (dCons (dVar 4) (dCons (dTwo oIx (dVar 3) (dC (.int 1))) dNil))) (dTwo oSub (dArg m_law_rank (dCons (dTwo oAdd (dVar 5) (dTup (dCons (dVar 1) dNil))) (dCons (dTwo oIx (dVar 0) (dC (.int 1))) dNil))) (dArg m_law_rank (dCons (dTup (dCons (dVar 1) dNil)) (dCons (dTwo oIx (dVar 0) (dC (.int 1))) dNil)))))) (gRet (dC (.bool false))) gSkip)))
def g_law_ranks_fit : Sn := (gSeq (gFor (dItems (dArg m_law_parts_of (dCons (dTwo oSub (dTwo oIx (dVar 0) (dC (.int 0))) (dC (.int 1))) dNil))) (.nm 4) b_law_ranks_fit_1) (gRet (dC (.bool true))))
def m_law_ranks_fit : List PyData → R PyData := runD 6 4 g_law_ranks_fit
def g_law_in_both_orders : Sn := (gSeq (gSet (dTwo oIx (dVar 0) (dC (.int 0))) (.nm 3)) (gSeq (gSet (dArg m_without (dCons (dVar 0) (dCons (dVar 1) dNil))) (.nm 4)) (gSeq (gSet (dArg m_holding (dCons (dVar 0) (dCons (dVar 1) dNil))) (.nm 5)) (gSeq (gIf (dOr (dNot (dAsB (dArg m_law_is_some_offer (dCons (dVar 4) (dCons (dTwo oSub (dVar 3) (dC (.int 1))) dNil))))) (dNot (dAsB (dArg m_law_is_some_offer (dCons (dVar 5) (dCons (dTwo oSub (dVar 3) (dC (.int 1))) dNil)))))) (gRet (dC (.bool false))) gSkip) (gSeq (gIf (dOr (dAsB (dOne (fun d => .ok (.bool (!isNone d))) (dArg m_law_fault (dCons (dTwo oIx (dVar 4) (dC (.int 1))) dNil)))) (dAsB (dOne (fun d => .ok (.bool (!isNone d))) (dArg m_law_fault (dCons (dTwo oIx (dVar 5) (dC (.int 1))) dNil))))) (gRet (dC (.bool false))) gSkip) (gSeq (gIf (dOr (dAsB (dTwo oIsNot (dArg m_is_smooth (dCons (dVar 4) dNil)) (dC (.bool true)))) (dOr (dAsB (dTwo oIsNot (dArg m_is_smooth (dCons (dVar 5) dNil)) (dC (.bool true)))) (dNot (dAsB (dArg m_law_ranks_fit (dCons (dVar 0) (dCons (dVar 1) (dCons (dVar 4) (dCons (dVar 5) dNil))))))))) (gRet (dC (.bool false))) gSkip) (gSeq (gSet (dArg m_without (dCons (dVar 4) (dCons (dTwo oSub (dVar 2) (dC (.int 1))) dNil))) (.nm 6)) (gSeq (gSet (dArg m_holding (dCons (dVar 5) (dCons (dTwo oSub (dVar 2) (dC (.int 1))) dNil))) (.nm 7)) (gSeq (gSet (dArg m_without (dCons (dVar 5) (dCons (dTwo oSub (dVar 2) (dC (.int 1))) dNil))) (.nm 8)) (gSeq (gSet (dArg m_holding (dCons (dVar 4) (dCons (dTwo oSub (dVar 2) (dC (.int 1))) dNil))) (.nm 9)) (gSeq (gIf (dNot (dAsB (dArg bAll (dCons (dLc (dItems (dLst (dCons (dVar 6) (dCons (dVar 7) (dCons (dVar 8) (dCons (dVar 9) dNil)))))) (.nm 10) dYes (dArg m_law_is_some_offer (dCons (dVar 10) (dCons (dTwo oSub (dVar 3) (dC (.int 2))) dNil))) [10]) dNil)))) (gRet (dC (.bool false))) gSkip) (gSeq (gIf (dOr (dAsB (dTwo oNe (dVar 6) (dArg m_without (dCons (dArg m_without (dCons (dVar 0) (dCons (dVar 2) dNil))) (dCons (dVar 1) dNil))))) (dAsB (dTwo oNe (dVar 7) (dArg m_holding (dCons (dArg m_holding (dCons (dVar 0) (dCons (dVar 2) dNil))) (dCons (dVar 1) dNil)))))) (gRet (dC (.bool false))) gSkip) (gRet (dAndV (dTwo oEq (dVar 8) (dArg m_holding (dCons (dArg m_without (dCons (dVar 0) (dCons (dVar 2) dNil))) (dCons (dVar 1) dNil)))) (dTwo oEq (dVar 9) (dArg m_without (dCons (dArg m_holding (dCons (dVar 0) (dCons (dVar 2) dNil))) (dCons (dVar 1) dNil))))))))))))))))))
def m_law_in_both_orders : List PyData → R PyData := runD 11 3 g_law_in_both_orders
def g_opposite : Sn := (gSeq (gSet (dVar 0) (.tp [(.nm 1), (.nm 2)])) (gRet (dTup (dCons (dVar 1) (dCons (dArg bTuple (dCons (dArg bSorted (dCons (dLc (dItems (dVar 2)) (.nm 3) dYes (dArg m_things_missing (dCons (dVar 1) (dCons (dVar 3) dNil))) [3]) dNil)) dNil)) dNil)))))
def m_opposite : List PyData → R PyData := runD 4 1 g_opposite
def b_law_mirrored_1 : Sn := (gSeq (gSet (dArg m_opposite (dCons (dArg m_without (dCons (dVar 0) (dCons (dVar 3) dNil))) dNil)) (.nm 4)) (gSeq (gIf (dOr (dNot (dAsB (dArg m_law_is_some_offer (dCons (dVar 4) (dCons (dTwo oSub (dVar 1) (dC (.int 1))) dNil))))) (dAsB (dTwo oNe (dVar 4) (dArg m_holding (dCons (dVar 2) (dCons (dVar 3) dNil)))))) (gRet (dC (.bool false))) gSkip) (gSeq (gSet (dArg m_opposite (dCons (dArg m_holding (dCons (dVar 0) (dCons (dVar 3) dNil))) dNil)) (.nm 4)) (gIf (dOr (dNot (dAsB (dArg m_law_is_some_offer (dCons (dVar 4) (dCons (dTwo oSub (dVar 1) (dC (.int 1))) dNil))))) (dAsB (dTwo oNe (dVar 4) (dArg m_without (dCons (dVar 2) (dCons (dVar 3) dNil)))))) (gRet (dC (.bool false))) gSkip))))
def g_law_mirrored : Sn := (gSeq (gSet (dTwo oIx (dVar 0) (dC (.int 0))) (.nm 1)) (gSeq (gSet (dArg m_opposite (dCons (dVar 0) dNil)) (.nm 2)) (gSeq (gFor (dRng1 (dCons (dVar 1) dNil)) (.nm 3) b_law_mirrored_1) (gRet (dC (.bool true))))))
def m_law_mirrored : List PyData → R PyData := runD 5 1 g_law_mirrored
def g_law_k32 : Sn := (gSeq (gSet (dArg m_law_draws (dCons (dArg m_law_cell (dCons (dVar 0) (dCons (dC (.int 0)) dNil))) (dCons (dC (.int 4)) dNil))) (.nm 1)) (gSeq (gSet (dTwo oIx (dTup (dCons (dC (.int 4)) (dCons (dC (.int 5)) (dCons (dC (.int 3)) (dCons (dC (.int 4)) (dCons (dC (.int 2)) dNil)))))) (dTwo oMod (dArg bInt (dCons (dTwo oIx (dVar 1) (dC (.int 0))) dNil)) (dC (.int 5)))) (.nm 2)) (gSeq (gSet (dTwo oMod (dArg bInt (dCons (dTwo oIx (dVar 1) (dC (.int 1))) dNil)) (dTwo oSub (dVar 2) (dC (.int 1)))) (.nm 3)) (gSeq (gSet (dTwo oAdd (dTwo oAdd (dVar 3) (dC (.int 1))) (dTwo oMod (dArg bInt (dCons (dTwo oIx (dVar 1) (dC (.int 2))) dNil)) (dTwo oSub (dTwo oSub (dVar 2) (dC (.int 1))) (dVar 3)))) (.nm 4)) (gSeq (gSet (dTup (dCons (dVar 2) (dCons (dArg m_law_smooth_lots (dCons (dArg m_law_cell (dCons (dVar 0) (dCons (dC (.int 1)) dNil))) (dCons (dVar 2) dNil))) dNil))) (.nm 5)) (gSeq (gSet (dTwo oIx (dTup (dCons (dC (.int 4)) (dCons (dC (.int 3)) (dCons (dC (.int 4)) (dCons (dC (.int 2)) (dCons (dC (.int 1)) dNil)))))) (dTwo oMod (dArg bInt (dCons (dTwo oIx (dVar 1) (dC (.int 3))) dNil)) (dC (.int 5)))) (.nm 6)) (gSeq (gSet (dTup (dCons (dVar 6) (dCons (dArg m_law_lots (dCons (dArg m_law_cell (dCons (dVar 0) (dCons (dC (.int 2)) dNil))) (dCons (dVar 6) dNil))) dNil))) (.nm 7)) (gRet (dAndV (dArg m_law_in_both_orders (dCons (dVar 5) (dCons (dVar 3) (dCons (dVar 4) dNil)))) (dAndV (dArg m_law_mirrored (dCons (dVar 7) dNil)) (dArg m_law_mirrored (dCons (dVar 5) dNil))))))))))))
def m_law_k32 : List PyData → R PyData := runD 8 1 g_law_k32
end LW

set_option Elab.async false
set_option linter.all false
set_option maxRecDepth 100000
set_option maxHeartbeats 4000000
namespace LW
open PySem PySem.Spec PyProof.Rows L2 PD
def b_law_left_lots_1 : Sn := (gIf (dThawB (dAsB (dTwo oGt (dArg bLen (dCons (dVar 2) dNil)) (dC (.int 1))))) (gPopAt 2 (dThaw (dTwo oMod (dArg bInt (dCons (dTwo oAdd (dTwo oIx (dVar 0) (dC (.int 1))) (dVar 3)) dNil)) (dArg bLen (dCons (dVar 2) dNil))))) gSkip)
def g_law_left_lots : Sn := (gSeq (gOwn (dArg bList (dCons (dVar 1) dNil)) 2) (gSeq (gFor (dRng1 (dCons (dTwo oAdd (dC (.int 1)) (dTwo oMod (dArg bInt (dCons (dTwo oIx (dVar 0) (dC (.int 0))) dNil)) (dC (.int 2)))) dNil)) (.nm 3) b_law_left_lots_1) (gFrz 2 (gRet (dArg bTuple (dCons (dVar 2) dNil))))))
def m_law_left_lots : List PyData → R PyData := runD 4 2 g_law_left_lots
def b_law_bounded_lots_1 : Sn := (gIf (dAsB (dArg bAll (dCons (dLc (dRng1 (dCons (dC (.int 3)) dNil)) (.nm 9) dYes (dTwo oLe (dArg m_law_count (dCons (dVar 5) (dCons (dVar 2) (dCons (dVar 9) dNil)))) (dTwo oIx (dVar 3) (dVar 9))) [9]) dNil))) (gApp 4 (dVar 5)) gSkip)
def g_law_bounded_lots : Sn := (gSeq (gSet (dLc (dRng1 (dCons (dVar 1) dNil)) (.nm 8) dYes (dTwo oMod (dArg bInt (dCons (dTwo oIx (dVar 0) (dTwo oAdd (dC (.int 3)) (dVar 8))) dNil)) (dC (.int 3))) [8]) (.nm 2)) (gSeq (gSet (dLst (dCons (dTwo oAdd (dC (.int 1)) (dTwo oMod (dArg bInt (dCons (dTwo oIx (dVar 0) (dC (.int 2))) dNil)) (dC (.int 2)))) (dCons (dTwo oAdd (dC (.int 1)) (dTwo oMod (dTwo oDiv (dArg bInt (dCons (dTwo oIx (dVar 0) (dC (.int 2))) dNil)) (dC (.int 2))) (dC (.int 2)))) (dCons (dTwo oMod (dTwo oDiv (dArg bInt (dCons (dTwo oIx (dVar 0) (dC (.int 2))) dNil)) (dC (.int 4))) (dC (.int 3))) dNil)))) (.nm 3)) (gSeq (gOwn (dLst dNil) 4) (gSeq (gFor (dItems (dArg m_law_parts_of (dCons (dVar 1) dNil))) (.nm 5) b_law_bounded_lots_1) (gFrz 4 (gSeq (gSet (dArg bMax (dCons (dLc (dItems (dVar 4)) (.nm 5) dYes (dArg bLen (dCons (dVar 5) dNil)) [5]) dNil)) (.nm 6)) (gSeq (gSet (dArg bMin2 (dCons (dVar 6) (dCons (dTwo oIx (dTup (dCons (dC (.int 2)) (dCons (dC (.int 1)) (dCons (dC (.int 2)) (dCons (dC (.int 3)) (dCons (dC (.int 1)) (dCons (dC (.int 2)) (dCons (dC (.int 0)) (dCons (dC (.int 3)) dNil))))))))) (dTwo oMod (dArg bInt (dCons (dTwo oIx (dVar 0) (dC (.int 1))) dNil)) (dC (.int 8)))) dNil))) (.nm 7)) (gRet (dArg bTuple (dCons (dLc (dItems (dVar 4)) (.nm 5) (dAsB (dTwo oEq (dArg bLen (dCons (dVar 5) dNil)) (dVar 7))) (dVar 5) [5]) dNil))))))))))
def m_law_bounded_lots : List PyData → R PyData := runD 10 2 g_law_bounded_lots
def b_law_is_forest_1 : Sn := (gSeq (gSet (dTwo oIx (dVar 3) (dTwo oIx (dTwo oIx (dVar 1) (dVar 4)) (dC (.int 0)))) (.nm 5)) (gSeq (gSet (dTwo oIx (dVar 3) (dTwo oIx (dTwo oIx (dVar 1) (dVar 4)) (dC (.int 1)))) (.nm 6)) (gSeq (gIf (dAsB (dTwo oEq (dVar 5) (dVar 6))) (gRet (dC (.bool false))) gSkip) (gSet (dLc (dItems (dVar 3)) (.nm 7) dYes (dIf (dAsB (dTwo oEq (dVar 7) (dVar 5))) (dVar 6) (dVar 7)) [7]) (.nm 3)))))
def g_law_is_forest : Sn := (gSeq (gSet (dOne bLstR1 (dVar 2)) (.nm 3)) (gSeq (gFor (dItems (dVar 0)) (.nm 4) b_law_is_forest_1) (gRet (dC (.bool true)))))
def m_law_is_forest : List PyData → R PyData := runD 8 3 g_law_is_forest
def b_law_forest_lots_1 : Sn := (gSeq (gSet (dArg bInt (dCons (dTwo oIx (dVar 0) (dTwo oAdd (dC (.int 2)) (dVar 4))) dNil)) (.nm 5)) (gApp 3 (dTup (dCons (dTwo oMod (dVar 5) (dVar 2)) (dCons (dTwo oMod (dTwo oDiv (dVar 5) (dVar 2)) (dVar 2)) dNil)))))
def g_law_forest_lots : Sn := (gSeq (gSet (dTwo oAdd (dC (.int 2)) (dTwo oMod (dArg bInt (dCons (dTwo oIx (dVar 0) (dC (.int 1))) dNil)) (dC (.int 3)))) (.nm 2)) (gSeq (gOwn (dLst dNil) 3) (gSeq (gFor (dRng1 (dCons (dVar 1) dNil)) (.nm 4) b_law_forest_lots_1) (gFrz 3 (gSeq (gSet (dLc (dItems (dArg m_law_parts_of (dCons (dVar 1) dNil))) (.nm 8) (dAsB (dArg m_law_is_forest (dCons (dVar 8) (dCons (dVar 3) (dCons (dVar 2) dNil))))) (dVar 8) [8]) (.nm 6)) (gSeq (gSet (dArg bMax (dCons (dLc (dItems (dVar 6)) (.nm 8) dYes (dArg bLen (dCons (dVar 8) dNil)) [8]) dNil)) (.nm 7)) (gRet (dArg bTuple (dCons (dLc (dItems (dVar 6)) (.nm 8) (dAsB (dTwo oEq (dArg bLen (dCons (dVar 8) dNil)) (dVar 7))) (dVar 8) [8]) dNil)))))))))
def m_law_forest_lots : List PyData → R PyData := runD 9 2 g_law_forest_lots
def g_law_rest_of : Sn := (gRet (dArg bTuple (dCons (dLc (dRng1 (dCons (dVar 1) dNil)) (.nm 2) (dAsB (dTwo oNotIn (dVar 2) (dVar 0))) (dVar 2) [2]) dNil)))
def m_law_rest_of : List PyData → R PyData := runD 3 2 g_law_rest_of
def g_law_smooth_lots_k03 : Sn := (gSeq (gSet (dArg m_law_draws (dCons (dVar 0) (dCons (dTwo oAdd (dC (.int 3)) (dVar 1)) dNil))) (.nm 2)) (gSeq (gSet (dTwo oMod (dArg bInt (dCons (dTwo oIx (dVar 2) (dC (.int 0))) dNil)) (dC (.int 6))) (.nm 3)) (gSeq (gIf (dAsB (dTwo oLt (dVar 3) (dC (.int 4)))) (gSet (dArg m_law_bounded_lots (dCons (dVar 2) (dCons (dVar 1) dNil))) (.nm 4)) (gSet (dArg m_law_forest_lots (dCons (dVar 2) (dCons (dVar 1) dNil))) (.nm 4))) (gSeq (gIf (dOr (dAsB (dTwo oEq (dVar 3) (dC (.int 3)))) (dAsB (dTwo oEq (dVar 3) (dC (.int 5))))) (gSet (dArg bTuple (dCons (dArg bSorted (dCons (dLc (dItems (dVar 4)) (.nm 5) dYes (dArg m_law_rest_of (dCons (dVar 5) (dCons (dVar 1) dNil))) [5]) dNil)) dNil)) (.nm 4)) gSkip) (gRet (dVar 4))))))
def m_law_smooth_lots_k03 : List PyData → R PyData := runD 6 2 g_law_smooth_lots_k03
def g_law_any_lots_k03 : Sn := (gSeq (gSet (dArg m_law_draws (dCons (dVar 0) (dCons (dTwo oAdd (dC (.int 15)) (dVar 1)) dNil))) (.nm 2)) (gSeq (gSet (dTwo oMod (dArg bInt (dCons (dTwo oIx (dVar 2) (dC (.int 12))) dNil)) (dC (.int 4))) (.nm 3)) (gSeq (gIf (dAsB (dTwo oEq (dVar 3) (dC (.int 1)))) (gRet (dArg m_law_left_lots (dCons (dCut (dVar 2) (dPart (dC (.int 13))) dNoP) (dCons (dArg m_law_smooth_lots_k03 (dCons (dVar 0) (dCons (dVar 1) dNil))) dNil)))) gSkip) (gSeq (gIf (dAnd (dAsB (dTwo oEq (dVar 3) (dC (.int 2)))) (dAsB (dTwo oGt (dVar 1) (dC (.int 2))))) (gSeq (gSet (dLc (dRng1 (dCons (dVar 1) dNil)) (.nm 7) dYes (dTwo oMod (dArg bInt (dCons (dTwo oIx (dVar 2) (dTwo oAdd (dC (.int 15)) (dVar 7))) dNil)) (dC (.int 3))) [7]) (.nm 4)) (gSeq (gSet (dLc (dRng1 (dCons (dC (.int 3)) dNil)) (.nm 8) dYes (dArg bTuple (dCons (dLc (dRng1 (dCons (dVar 1) dNil)) (.nm 7) (dAsB (dTwo oEq (dTwo oIx (dVar 4) (dVar 7)) (dVar 8))) (dVar 7) [7]) dNil)) [8]) (.nm 5)) (gRet (dArg m_law_antichain (dCons (dVar 5) dNil))))) gSkip) (gSeq (gSet (dArg m_law_parts_of (dCons (dVar 1) dNil)) (.nm 6)) (gSeq (gSet (dLc (dRng1 (dCons (dTwo oAdd (dC (.int 1)) (dTwo oMod (dArg bInt (dCons (dTwo oIx (dVar 2) (dC (.int 0))) dNil)) (dC (.int 6)))) dNil)) (.nm 9) dYes (dTwo oIx (dVar 6) (dTwo oMod (dArg bInt (dCons (dTwo oIx (dVar 2) (dTwo oAdd (dC (.int 1)) (dVar 9))) dNil)) (dArg bLen (dCons (dVar 6) dNil)))) [9]) (.nm 5)) (gRet (dArg m_law_antichain (dCons (dVar 5) dNil)))))))))
def m_law_any_lots_k03 : List PyData → R PyData := runD 10 2 g_law_any_lots_k03
def g_law_lots_k03 : Sn := (gSeq (gIf (dAsB (dTwo oEq (dTwo oMod (dArg bInt (dCons (dTwo oIx (dArg m_law_draws (dCons (dVar 0) (dCons (dC (.int 12)) dNil))) (dC (.int 11))) dNil)) (dC (.int 2))) (dC (.int 0)))) (gRet (dArg m_law_smooth_lots_k03 (dCons (dVar 0) (dCons (dVar 1) dNil)))) gSkip) (gRet (dArg m_law_any_lots_k03 (dCons (dVar 0) (dCons (dVar 1) dNil)))))
def m_law_lots_k03 : List PyData → R PyData := runD 2 2 g_law_lots_k03
def g_count_common : Sn := (gRet (dArg bLen (dCons (dLc (dItems (dVar 0)) (.nm 2) (dAsB (dTwo oIn (dVar 2) (dVar 1))) (dVar 2) [2]) dNil)))
def m_count_common : List PyData → R PyData := runD 3 2 g_count_common
def g_rank : Sn := (gRet (dArg bMax (dCons (dLc (dItems (dTwo oIx (dVar 0) (dC (.int 1)))) (.nm 2) dYes (dArg m_count_common (dCons (dVar 1) (dCons (dVar 2) dNil))) [2]) dNil)))
def m_rank : List PyData → R PyData := runD 3 2 g_rank
def g_lies_within : Sn := (gRet (dAnyG false (dItems (dVar 0)) (.nm 2) dYes (dTwo oIn (dVar 2) (dVar 1)) [2]))
def m_lies_within : List PyData → R PyData := runD 3 2 g_lies_within
def g_is_free : Sn := (gRet (dAnyG true (dItems (dTwo oIx (dVar 0) (dC (.int 1)))) (.nm 2) dYes (dArg m_lies_within (dCons (dVar 1) (dCons (dVar 2) dNil))) [2]))
def m_is_free : List PyData → R PyData := runD 3 2 g_is_free
def b_law_k03_1 : Sn := (gSeq (gSet (dArg bMax (dCons (dLc (dItems (dTwo oIx (dVar 3) (dC (.int 1)))) (.nm 8) dYes (dArg bLen (dCons (dLc (dItems (dVar 8)) (.nm 9) (dAsB (dTwo oIn (dVar 9) (dVar 4))) (dVar 9) [9]) dNil)) [8]) dNil)) (.nm 5)) (gSeq (gSet (dArg m_rank (dCons (dVar 3) (dCons (dVar 4) dNil))) (.nm 6)) (gSeq (gIf (dOr (dNot (dAsB (dArg m_law_is_integer (dCons (dVar 6) dNil)))) (dAsB (dTwo oNe (dVar 6) (dVar 5)))) (gRet (dC (.bool false))) gSkip) (gSeq (gSet (dArg m_is_free (dCons (dVar 3) (dCons (dVar 4) dNil))) (.nm 7)) (gSeq (gIf (dOr (dNot (dAsB (dOne (oIsi "bool") (dVar 7)))) (dAsB (dTwo oNe (dVar 7) (dArg bAny (dCons (dLc (dItems (dTwo oIx (dVar 3) (dC (.int 1)))) (.nm 8) dYes (dArg m_law_within (dCons (dVar 4) (dCons (dVar 8) dNil))) [8]) dNil))))) (gRet (dC (.bool false))) gSkip) (gIf (dAsB (dTwo oNe (dVar 7) (dTwo oEq (dVar 5) (dArg bLen (dCons (dVar 4) dNil))))) (gRet (dC (.bool false))) gSkip))))))
def g_law_k03 : Sn := (gSeq (gSet (dArg m_law_draws (dCons (dArg m_law_cell (dCons (dVar 0) (dCons (dC (.int 0)) dNil))) (dCons (dC (.int 1)) dNil))) (.nm 1)) (gSeq (gSet (dTwo oIx (dTup (dCons (dC (.int 4)) (dCons (dC (.int 3)) (dCons (dC (.int 5)) (dCons (dC (.int 2)) (dCons (dC (.int 6)) (dCons (dC (.int 1)) (dCons (dC (.int 0)) (dCons (dC (.int 4)) dNil))))))))) (dTwo oMod (dArg bInt (dCons (dTwo oIx (dVar 1) (dC (.int 0))) dNil)) (dC (.int 8)))) (.nm 2)) (gSeq (gSet (dTup (dCons (dVar 2) (dCons (dArg m_law_lots_k03 (dCons (dArg m_law_cell (dCons (dVar 0) (dCons (dC (.int 1)) dNil))) (dCons (dVar 2) dNil))) dNil))) (.nm 3)) (gSeq (gFor (dItems (dArg m_law_parts_of (dCons (dVar 2) dNil))) (.nm 4) b_law_k03_1) (gRet (dC (.bool true)))))))
def m_law_k03 : List PyData → R PyData := runD 10 1 g_law_k03
end LW

set_option Elab.async false
set_option linter.all false
set_option maxRecDepth 100000
set_option maxHeartbeats 4000000
namespace LW
open PySem PySem.Spec PyProof.Rows L2 PD
def b_law_prices_1 : Sn := (gSeq (gSet (dTwo oSub (dTwo oMod (dArg bInt (dCons (dTwo oIx (dVar 3) (dTwo oAdd (dC (.int 1)) (dVar 5))) dNil)) (dC (.int 11))) (dC (.int 4))) (.nm 6)) (gSeq (gIf (dAsB (dVar 2)) (gSet (dTwo oAdd (dTwo oMul (dVar 6) (dTwo oPow (dC (.int 10)) (dC (.int 30)))) (dTwo oMod (dTwo oDiv (dArg bInt (dCons (dTwo oIx (dVar 3) (dTwo oAdd (dC (.int 1)) (dVar 5))) dNil)) (dC (.int 11))) (dC (.int 3)))) (.nm 6)) gSkip) (gApp 4 (dVar 6))))
def g_law_prices : Sn := (gSeq (gSet (dArg m_law_draws (dCons (dVar 0) (dCons (dTwo oAdd (dVar 1) (dC (.int 1))) dNil))) (.nm 3)) (gSeq (gOwn (dLst dNil) 4) (gSeq (gFor (dRng1 (dCons (dVar 1) dNil)) (.nm 5) b_law_prices_1) (gFrz 4 (gRet (dArg bTuple (dCons (dVar 4) dNil)))))))
def m_law_prices : List PyData → R PyData := runD 7 3 g_law_prices
def g_price : Sn := (gRet (dArg bSum (dCons (dLc (dItems (dVar 0)) (.nm 2) dYes (dTwo oIx (dVar 1) (dVar 2)) [2]) dNil)))
def m_price : List PyData → R PyData := runD 3 2 g_price
def g_cheapest : Sn := (gRet (dMinL (dCons (dTwo oIx (dVar 0) (dC (.int 1))) dNil) 2 (dArg m_price (dCons (dVar 2) (dCons (dVar 1) dNil)))))
def m_cheapest : List PyData → R PyData := runD 3 2 g_cheapest
def g_law_price : Sn := (gRet (dArg bSum (dCons (dLc (dItems (dVar 0)) (.nm 2) dYes (dTwo oIx (dVar 1) (dVar 2)) [2]) dNil)))
def m_law_price : List PyData → R PyData := runD 3 2 g_law_price
def b_law_cheapest_1 : Sn := (gIf (dAsB (dTwo oLt (dArg m_law_price (dCons (dVar 3) (dCons (dVar 1) dNil))) (dArg m_law_price (dCons (dVar 2) (dCons (dVar 1) dNil))))) (gSet (dVar 3) (.nm 2)) gSkip)
def g_law_cheapest : Sn := (gSeq (gSet (dTwo oIx (dVar 0) (dC (.int 0))) (.nm 2)) (gSeq (gFor (dItems (dVar 0)) (.nm 3) b_law_cheapest_1) (gRet (dVar 2))))
def m_law_cheapest : List PyData → R PyData := runD 4 2 g_law_cheapest
def b_law_tells_k12_1 : Sn := (gSeq (gSet (dArg m_price (dCons (dVar 2) (dCons (dVar 1) dNil))) (.nm 3)) (gIf (dOr (dNot (dAsB (dArg m_law_is_integer (dCons (dVar 3) dNil)))) (dAsB (dTwo oNe (dVar 3) (dArg m_law_price (dCons (dVar 2) (dCons (dVar 1) dNil)))))) (gRet (dC (.bool false))) gSkip))
def g_law_tells_k12 : Sn := (gSeq (gFor (dItems (dTwo oAdd (dTwo oIx (dVar 0) (dC (.int 1))) (dTup (dCons (dTup dNil) dNil)))) (.nm 2) b_law_tells_k12_1) (gSeq (gSet (dArg m_cheapest (dCons (dVar 0) (dCons (dVar 1) dNil))) (.nm 3)) (gRet (dAndV (dArg m_law_is_set (dCons (dVar 3) (dCons (dTwo oIx (dVar 0) (dC (.int 0))) dNil))) (dTwo oEq (dVar 3) (dArg m_law_cheapest (dCons (dTwo oIx (dVar 0) (dC (.int 1))) (dCons (dVar 1) dNil))))))))
def m_law_tells_k12 : List PyData → R PyData := runD 4 2 g_law_tells_k12
def g_law_k12 : Sn := (gSeq (gSet (dArg m_law_draws (dCons (dArg m_law_cell (dCons (dVar 0) (dCons (dC (.int 0)) dNil))) (dCons (dC (.int 2)) dNil))) (.nm 1)) (gSeq (gSet (dTwo oIx (dTup (dCons (dC (.int 4)) (dCons (dC (.int 3)) (dCons (dC (.int 5)) (dCons (dC (.int 2)) (dCons (dC (.int 6)) (dCons (dC (.int 1)) (dCons (dC (.int 0)) (dCons (dC (.int 4)) dNil))))))))) (dTwo oMod (dArg bInt (dCons (dTwo oIx (dVar 1) (dC (.int 0))) dNil)) (dC (.int 8)))) (.nm 2)) (gSeq (gSet (dTup (dCons (dVar 2) (dCons (dArg m_law_lots_k03 (dCons (dArg m_law_cell (dCons (dVar 0) (dCons (dC (.int 1)) dNil))) (dCons (dVar 2) dNil))) dNil))) (.nm 3)) (gSeq (gSet (dTwo oEq (dTwo oMod (dArg bInt (dCons (dTwo oIx (dVar 1) (dC (.int 1))) dNil)) (dC (.int 8))) (dC (.int 5))) (.nm 4)) (gSeq (gSet (dArg m_law_prices (dCons (dArg m_law_cell (dCons (dVar 0) (dCons (dC (.int 2)) dNil))) (dCons (dVar 2) (dCons (dVar 4) dNil)))) (.nm 5)) (gSeq (gSet (dArg m_law_prices (dCons (dArg m_law_cell (dCons (dVar 0) (dCons (dC (.int 3)) dNil))) (dCons (dVar 2) (dCons (dC (.bool false)) dNil)))) (.nm 6)) (gRet (dAndV (dArg m_law_tells_k12 (dCons (dVar 3) (dCons (dVar 5) dNil))) (dAndV (dArg m_law_tells_k12 (dCons (dVar 3) (dCons (dVar 6) dNil))) (dArg m_law_tells_k12 (dCons (dVar 3) (dCons (dVar 5) dNil))))))))))))
def m_law_k12 : List PyData → R PyData := runD 7 1 g_law_k12
end LW

set_option Elab.async false
set_option linter.all false
set_option maxRecDepth 100000
set_option maxHeartbeats 4000000
namespace LW
open PySem PySem.Spec PyProof.Rows L2 PD
def b_law_costs_1 : Sn := (gSeq (gSet (dArg bInt (dCons (dTwo oIx (dVar 4) (dTwo oAdd (dTwo oMul (dVar 6) (dVar 2)) (dVar 9))) dNil)) (.nm 10)) (gSeq (gIf (dAsB (dTwo oGt (dVar 9) (dC (.int 0)))) (gSet (dTwo oAdd (dVar 7) (dTwo oMul (dTwo oMod (dVar 10) (dC (.int 5))) (dTwo oMod (dTwo oDiv (dVar 10) (dC (.int 5))) (dC (.int 2))))) (.nm 7)) gSkip) (gIf (dAsB (dVar 3)) (gApp 8 (dTwo oAdd (dTwo oAdd (dTwo oMul (dVar 7) (dTwo oPow (dC (.int 10)) (dC (.int 30)))) (dVar 9)) (dVar 6))) (gApp 8 (dVar 7)))))
def b_law_costs_2 : Sn := (gSeq (gSet (dTwo oSub (dTwo oMod (dArg bInt (dCons (dTwo oIx (dVar 4) (dTwo oMul (dVar 6) (dVar 2))) dNil)) (dC (.int 9))) (dC (.int 3))) (.nm 7)) (gSeq (gOwn (dLst dNil) 8) (gSeq (gFor (dRng1 (dCons (dVar 2) dNil)) (.nm 9) b_law_costs_1) (gFrz 8 (gApp 5 (dArg bTuple (dCons (dVar 8) dNil)))))))
def g_law_costs : Sn := (gSeq (gSet (dArg m_law_draws (dCons (dVar 0) (dCons (dTwo oAdd (dTwo oMul (dVar 1) (dVar 2)) (dC (.int 1))) dNil))) (.nm 4)) (gSeq (gOwn (dLst dNil) 5) (gSeq (gFor (dRng1 (dCons (dVar 1) dNil)) (.nm 6) b_law_costs_2) (gFrz 5 (gRet (dArg bTuple (dCons (dVar 5) dNil)))))))
def m_law_costs : List PyData → R PyData := runD 11 4 g_law_costs
def b_law_game_1 : Sn := (gSeq (gSet (dArg m_law_cell (dCons (dVar 0) (dCons (dTwo oAdd (dTwo oAdd (dVar 1) (dC (.int 1))) (dTwo oMul (dC (.int 2)) (dVar 7))) dNil))) (.nm 8)) (gSeq (gIf (dAsB (dVar 2)) (gSet (dArg m_law_smooth_lots_k03 (dCons (dVar 8) (dCons (dVar 5) dNil))) (.nm 9)) (gSet (dArg m_law_lots_k03 (dCons (dVar 8) (dCons (dVar 5) dNil))) (.nm 9))) (gSeq (gSet (dTwo oAdd (dVar 4) (dTwo oMod (dArg bInt (dCons (dTwo oIx (dVar 3) (dTwo oAdd (dC (.int 4)) (dVar 7))) dNil)) (dC (.int 3)))) (.nm 10)) (gSeq (gSet (dArg m_law_costs (dCons (dArg m_law_cell (dCons (dVar 0) (dCons (dTwo oAdd (dTwo oAdd (dVar 1) (dC (.int 2))) (dTwo oMul (dC (.int 2)) (dVar 7))) dNil))) (dCons (dVar 5) (dCons (dVar 10) (dCons (dTwo oEq (dTwo oMod (dArg bInt (dCons (dTwo oIx (dVar 3) (dC (.int 3))) dNil)) (dC (.int 8))) (dC (.int 1))) dNil))))) (.nm 11)) (gApp 6 (dTup (dCons (dTup (dCons (dVar 5) (dCons (dVar 9) dNil))) (dCons (dVar 11) dNil))))))))
def g_law_game : Sn := (gSeq (gSet (dArg m_law_draws (dCons (dArg m_law_cell (dCons (dVar 0) (dCons (dVar 1) dNil))) (dCons (dC (.int 8)) dNil))) (.nm 3)) (gSeq (gSet (dTwo oIx (dTup (dCons (dC (.int 1)) (dCons (dC (.int 2)) (dCons (dC (.int 2)) (dCons (dC (.int 2)) (dCons (dC (.int 3)) (dCons (dC (.int 3)) (dCons (dC (.int 2)) (dCons (dC (.int 0)) dNil))))))))) (dTwo oMod (dArg bInt (dCons (dTwo oIx (dVar 3) (dC (.int 0))) dNil)) (dC (.int 8)))) (.nm 4)) (gSeq (gSet (dTwo oIx (dTup (dCons (dC (.int 3)) (dCons (dC (.int 4)) (dCons (dC (.int 3)) (dCons (dC (.int 2)) (dCons (dC (.int 5)) (dCons (dC (.int 1)) (dCons (dC (.int 4)) (dCons (dC (.int 0)) dNil))))))))) (dTwo oMod (dArg bInt (dCons (dTwo oIx (dVar 3) (dC (.int 1))) dNil)) (dC (.int 8)))) (.nm 5)) (gSeq (gOwn (dLst dNil) 6) (gSeq (gFor (dRng1 (dCons (dVar 4) dNil)) (.nm 7) b_law_game_1) (gFrz 6 (gRet (dArg bTuple (dCons (dVar 6) dNil)))))))))
def m_law_game : List PyData → R PyData := runD 12 3 g_law_game
def g_law_choice : Sn := (gSeq (gSet (dArg m_law_draws (dCons (dVar 0) (dCons (dTwo oAdd (dArg bLen (dCons (dVar 1) dNil)) (dC (.int 1))) dNil))) (.nm 2)) (gRet (dArg bTuple (dCons (dLc (dRng1 (dCons (dArg bLen (dCons (dVar 1) dNil)) dNil)) (.nm 3) dYes (dTwo oIx (dTwo oIx (dTwo oIx (dTwo oIx (dVar 1) (dVar 3)) (dC (.int 0))) (dC (.int 1))) (dTwo oMod (dArg bInt (dCons (dTwo oIx (dVar 2) (dVar 3)) dNil)) (dArg bLen (dCons (dTwo oIx (dTwo oIx (dTwo oIx (dVar 1) (dVar 3)) (dC (.int 0))) (dC (.int 1))) dNil)))) [3]) dNil))))
def m_law_choice : List PyData → R PyData := runD 4 2 g_law_choice
def b_count_loads_1 : Sn := (gAugAt 3 (dVar 6) (dTwo oIx (dVar 4) (dC (.int 2))))
def b_count_loads_2 : Sn := (gFor (dItems (dVar 5)) (.nm 6) b_count_loads_1)
def g_count_loads : Sn := (gSeq (gOwn (dLc (dRng1 (dCons (dVar 0) dNil)) (.nm 7) dYes (dC (.int 0)) [7]) 3) (gSeq (gFor (dZip (dCons (dVar 1) (dCons (dVar 2) dNil))) (.tp [(.nm 4), (.nm 5)]) b_count_loads_2) (gFrz 3 (gRet (dArg bTuple (dCons (dVar 3) dNil))))))
def m_count_loads : List PyData → R PyData := runD 8 3 g_count_loads
def g_players : Sn := (gRet (dLc (dItems (dVar 0)) (.tp [(.nm 1), (.nm 2)]) dYes (dTup (dCons (dVar 1) (dCons (dVar 2) (dCons (dC (.int 1)) dNil)))) [1, 2]))
def m_players : List PyData → R PyData := runD 3 1 g_players
def g_loads : Sn := (gSeq (gSet (dIf (dAsB (dTwo oGt (dArg bLen (dCons (dVar 0) dNil)) (dC (.int 0)))) (dTwo oIx (dTwo oIx (dTwo oIx (dVar 0) (dC (.int 0))) (dC (.int 0))) (dC (.int 0))) (dC (.int 0))) (.nm 2)) (gRet (dArg m_count_loads (dCons (dVar 2) (dCons (dArg m_players (dCons (dVar 0) dNil)) (dCons (dVar 1) dNil))))))
def m_loads : List PyData → R PyData := runD 3 2 g_loads
def g_cost_at : Sn := (gRet (dTwo oIx (dTwo oIx (dVar 0) (dVar 1)) (dTwo oSub (dVar 2) (dC (.int 1)))))
def m_cost_at : List PyData → R PyData := runD 3 3 g_cost_at
def g_prices_for : Sn := (gSeq (gSet (dTwo oIx (dVar 0) (dVar 2)) (.tp [(.nm 3), (.nm 4), (.nm 5)])) (gSeq (gSet (dArg m_count_loads (dCons (dTwo oIx (dVar 3) (dC (.int 0))) (dCons (dVar 0) (dCons (dVar 1) dNil)))) (.nm 6)) (gSeq (gSet (dTwo oIx (dVar 1) (dVar 2)) (.nm 7)) (gSeq (gSet (dLc (dRng1 (dCons (dTwo oIx (dVar 3) (dC (.int 0))) dNil)) (.nm 9) dYes (dIf (dAsB (dTwo oIn (dVar 9) (dVar 7))) (dC (.int 0)) (dVar 5)) [9]) (.nm 8)) (gRet (dArg bTuple (dCons (dLc (dEnum (dCons (dVar 8) dNil)) (.tp [(.nm 9), (.nm 10)]) dYes (dArg m_cost_at (dCons (dVar 4) (dCons (dVar 9) (dCons (dTwo oAdd (dTwo oIx (dVar 6) (dVar 9)) (dVar 10)) dNil)))) [9, 10]) dNil)))))))
def m_prices_for : List PyData → R PyData := runD 11 3 g_prices_for
def g_own_prices : Sn := (gRet (dArg m_prices_for (dCons (dArg m_players (dCons (dVar 0) dNil)) (dCons (dVar 1) (dCons (dVar 2) dNil)))))
def m_own_prices : List PyData → R PyData := runD 3 3 g_own_prices
def g_pay : Sn := (gRet (dArg m_price (dCons (dTwo oIx (dVar 1) (dVar 2)) (dCons (dArg m_own_prices (dCons (dVar 0) (dCons (dVar 1) (dCons (dVar 2) dNil)))) dNil))))
def m_pay : List PyData → R PyData := runD 3 3 g_pay
def g_law_loads : Sn := (gRet (dLc (dRng1 (dCons (dVar 1) dNil)) (.nm 2) dYes (dArg bLen (dCons (dLc (dItems (dVar 0)) (.nm 3) (dAsB (dTwo oIn (dVar 2) (dVar 3))) (dVar 3) [3]) dNil)) [2]))
def m_law_loads : List PyData → R PyData := runD 4 2 g_law_loads
def g_law_pay : Sn := (gSeq (gSet (dTwo oIx (dTwo oIx (dVar 0) (dVar 2)) (dC (.int 1))) (.nm 3)) (gSeq (gSet (dArg m_law_loads (dCons (dVar 1) (dCons (dArg bLen (dCons (dVar 3) dNil)) dNil))) (.nm 4)) (gRet (dArg bSum (dCons (dLc (dItems (dTwo oIx (dVar 1) (dVar 2))) (.nm 5) dYes (dTwo oIx (dTwo oIx (dVar 3) (dVar 5)) (dTwo oSub (dTwo oIx (dVar 4) (dVar 5)) (dC (.int 1)))) [5]) dNil)))))
def m_law_pay : List PyData → R PyData := runD 6 3 g_law_pay
def b_law_tells_k19_1 : Sn := (gSeq (gSet (dArg m_pay (dCons (dVar 0) (dCons (dVar 1) (dCons (dVar 4) dNil)))) (.nm 5)) (gIf (dOr (dNot (dAsB (dArg m_law_is_integer (dCons (dVar 5) dNil)))) (dAsB (dTwo oNe (dVar 5) (dArg m_law_pay (dCons (dVar 0) (dCons (dVar 1) (dCons (dVar 4) dNil))))))) (gRet (dC (.bool false))) gSkip))
def g_law_tells_k19 : Sn := (gSeq (gSet (dC (.int 0)) (.nm 2)) (gSeq (gIf (dAsB (dTwo oGt (dArg bLen (dCons (dVar 0) dNil)) (dC (.int 0)))) (gSet (dTwo oIx (dTwo oIx (dTwo oIx (dVar 0) (dC (.int 0))) (dC (.int 0))) (dC (.int 0))) (.nm 2)) gSkip) (gSeq (gSet (dArg m_loads (dCons (dVar 0) (dCons (dVar 1) dNil))) (.nm 3)) (gSeq (gIf (dOr (dNot (dAsB (dOne (oIsi "tuple") (dVar 3)))) (dAsB (dTwo oNe (dArg bList (dCons (dVar 3) dNil)) (dArg m_law_loads (dCons (dVar 1) (dCons (dVar 2) dNil)))))) (gRet (dC (.bool false))) gSkip) (gSeq (gIf (dNot (dAsB (dArg bAll (dCons (dLc (dItems (dVar 3)) (.nm 6) dYes (dArg m_law_is_integer (dCons (dVar 6) dNil)) [6]) dNil)))) (gRet (dC (.bool false))) gSkip) (gSeq (gFor (dRng1 (dCons (dArg bLen (dCons (dVar 0) dNil)) dNil)) (.nm 4) b_law_tells_k19_1) (gRet (dC (.bool true)))))))))
def m_law_tells_k19 : List PyData → R PyData := runD 7 2 g_law_tells_k19
def g_law_k19 : Sn := (gSeq (gSet (dArg m_law_game (dCons (dVar 0) (dCons (dC (.int 0)) (dCons (dC (.bool false)) dNil)))) (.nm 1)) (gSeq (gSet (dArg m_law_choice (dCons (dArg m_law_cell (dCons (dVar 0) (dCons (dC (.int 8)) dNil))) (dCons (dVar 1) dNil))) (.nm 2)) (gSeq (gSet (dArg m_law_choice (dCons (dArg m_law_cell (dCons (dVar 0) (dCons (dC (.int 9)) dNil))) (dCons (dVar 1) dNil))) (.nm 3)) (gRet (dAndV (dArg m_law_tells_k19 (dCons (dVar 1) (dCons (dVar 2) dNil))) (dAndV (dArg m_law_tells_k19 (dCons (dVar 1) (dCons (dVar 3) dNil))) (dArg m_law_tells_k19 (dCons (dVar 1) (dCons (dVar 2) dNil)))))))))
def m_law_k19 : List PyData → R PyData := runD 4 1 g_law_k19
end LW

set_option Elab.async false
set_option linter.all false
set_option maxRecDepth 100000
set_option maxHeartbeats 4000000
namespace LW
open PySem PySem.Spec PyProof.Rows L2 PD
def g_law_with : Sn := (gRet (dTwo oAdd (dTwo oAdd (dCut (dVar 0) dNoP (dPart (dVar 1))) (dTup (dCons (dVar 2) dNil))) (dCut (dVar 0) (dPart (dTwo oAdd (dVar 1) (dC (.int 1)))) dNoP)))
def m_law_with : List PyData → R PyData := runD 3 3 g_law_with
def b_law_best_1 : Sn := (gSeq (gSet (dArg m_law_pay (dCons (dVar 0) (dCons (dArg m_law_with (dCons (dVar 1) (dCons (dVar 2) (dCons (dVar 5) dNil)))) (dCons (dVar 2) dNil)))) (.nm 6)) (gIf (dAsB (dTwo oLt (dVar 6) (dVar 4))) (gSeq (gSet (dVar 5) (.nm 3)) (gSet (dVar 6) (.nm 4))) gSkip))
def g_law_best : Sn := (gSeq (gSet (dTwo oIx (dTwo oIx (dTwo oIx (dTwo oIx (dVar 0) (dVar 2)) (dC (.int 0))) (dC (.int 1))) (dC (.int 0))) (.nm 3)) (gSeq (gSet (dArg m_law_pay (dCons (dVar 0) (dCons (dArg m_law_with (dCons (dVar 1) (dCons (dVar 2) (dCons (dVar 3) dNil)))) (dCons (dVar 2) dNil)))) (.nm 4)) (gSeq (gFor (dItems (dTwo oIx (dTwo oIx (dTwo oIx (dVar 0) (dVar 2)) (dC (.int 0))) (dC (.int 1)))) (.nm 5) b_law_best_1) (gRet (dTup (dCons (dVar 3) (dCons (dVar 4) dNil)))))))
def m_law_best : List PyData → R PyData := runD 7 3 g_law_best
def g_best_lot : Sn := (gRet (dArg m_cheapest (dCons (dTwo oIx (dTwo oIx (dVar 0) (dVar 2)) (dC (.int 0))) (dCons (dArg m_own_prices (dCons (dVar 0) (dCons (dVar 1) (dCons (dVar 2) dNil)))) dNil))))
def m_best_lot : List PyData → R PyData := runD 3 3 g_best_lot
def g_gain_for : Sn := (gSeq (gSet (dArg m_prices_for (dCons (dVar 0) (dCons (dVar 1) (dCons (dVar 2) dNil)))) (.nm 3)) (gRet (dTwo oSub (dArg m_price (dCons (dTwo oIx (dVar 1) (dVar 2)) (dCons (dVar 3) dNil))) (dArg m_price (dCons (dArg m_cheapest (dCons (dTwo oIx (dTwo oIx (dVar 0) (dVar 2)) (dC (.int 0))) (dCons (dVar 3) dNil))) (dCons (dVar 3) dNil))))))
def m_gain_for : List PyData → R PyData := runD 4 3 g_gain_for
def g_gain : Sn := (gRet (dArg m_gain_for (dCons (dArg m_players (dCons (dVar 0) dNil)) (dCons (dVar 1) (dCons (dVar 2) dNil)))))
def m_gain : List PyData → R PyData := runD 3 3 g_gain
def b_law_k21_1 : Sn := (gSeq (gSet (dArg m_law_best (dCons (dVar 1) (dCons (dVar 2) (dCons (dVar 3) dNil)))) (.nm 4)) (gSeq (gSet (dArg m_best_lot (dCons (dVar 1) (dCons (dVar 2) (dCons (dVar 3) dNil)))) (.nm 5)) (gSeq (gIf (dOr (dNot (dAsB (dArg m_law_is_set (dCons (dVar 5) (dCons (dTwo oIx (dTwo oIx (dTwo oIx (dVar 1) (dVar 3)) (dC (.int 0))) (dC (.int 0))) dNil))))) (dAsB (dTwo oNe (dVar 5) (dTwo oIx (dVar 4) (dC (.int 0)))))) (gRet (dC (.bool false))) gSkip) (gSeq (gSet (dArg m_gain (dCons (dVar 1) (dCons (dVar 2) (dCons (dVar 3) dNil)))) (.nm 6)) (gIf (dOr (dNot (dAsB (dArg m_law_is_integer (dCons (dVar 6) dNil)))) (dOr (dAsB (dTwo oNe (dVar 6) (dTwo oSub (dArg m_law_pay (dCons (dVar 1) (dCons (dVar 2) (dCons (dVar 3) dNil)))) (dTwo oIx (dVar 4) (dC (.int 1)))))) (dAsB (dTwo oLt (dVar 6) (dC (.int 0)))))) (gRet (dC (.bool false))) gSkip)))))
def g_law_k21 : Sn := (gSeq (gSet (dArg m_law_game (dCons (dVar 0) (dCons (dC (.int 0)) (dCons (dC (.bool false)) dNil)))) (.nm 1)) (gSeq (gSet (dArg m_law_choice (dCons (dArg m_law_cell (dCons (dVar 0) (dCons (dC (.int 8)) dNil))) (dCons (dVar 1) dNil))) (.nm 2)) (gSeq (gFor (dRng1 (dCons (dArg bLen (dCons (dVar 1) dNil)) dNil)) (.nm 3) b_law_k21_1) (gRet (dC (.bool true))))))
def m_law_k21 : List PyData → R PyData := runD 7 1 g_law_k21
end LW

set_option Elab.async false
set_option linter.all false
set_option maxRecDepth 100000
set_option maxHeartbeats 4000000
namespace LW
open PySem PySem.Spec PyProof.Rows L2 PD
def b_law_first_gain_1 : Sn := (gSeq (gSet (dArg m_law_best (dCons (dVar 0) (dCons (dVar 1) (dCons (dVar 2) dNil)))) (.nm 3)) (gIf (dAsB (dTwo oLt (dTwo oIx (dVar 3) (dC (.int 1))) (dArg m_law_pay (dCons (dVar 0) (dCons (dVar 1) (dCons (dVar 2) dNil)))))) (gRet (dTup (dCons (dVar 2) (dCons (dTwo oIx (dVar 3) (dC (.int 0))) dNil)))) gSkip))
def g_law_first_gain : Sn := (gSeq (gFor (dRng1 (dCons (dArg bLen (dCons (dVar 0) dNil)) dNil)) (.nm 2) b_law_first_gain_1) (gRet (dC .none)))
def m_law_first_gain : List PyData → R PyData := runD 4 2 g_law_first_gain
def b_first_gain_for_1 : Sn := (gSeq (gSet (dArg m_prices_for (dCons (dVar 0) (dCons (dVar 1) (dCons (dVar 2) dNil)))) (.nm 4)) (gSeq (gSet (dArg m_cheapest (dCons (dTwo oIx (dVar 3) (dC (.int 0))) (dCons (dVar 4) dNil))) (.nm 5)) (gIf (dAsB (dTwo oLt (dArg m_price (dCons (dVar 5) (dCons (dVar 4) dNil))) (dArg m_price (dCons (dTwo oIx (dVar 1) (dVar 2)) (dCons (dVar 4) dNil))))) (gRet (dTup (dCons (dVar 2) (dCons (dVar 5) dNil)))) gSkip)))
def g_first_gain_for : Sn := (gSeq (gFor (dEnum (dCons (dVar 0) dNil)) (.tp [(.nm 2), (.nm 3)]) b_first_gain_for_1) (gRet (dC .none)))
def m_first_gain_for : List PyData → R PyData := runD 6 2 g_first_gain_for
def g_first_gain : Sn := (gRet (dArg m_first_gain_for (dCons (dArg m_players (dCons (dVar 0) dNil)) (dCons (dVar 1) dNil))))
def m_first_gain : List PyData → R PyData := runD 2 2 g_first_gain
def g_is_rest : Sn := (gRet (dOne (fun d => .ok (.bool (isNone d))) (dArg m_first_gain (dCons (dVar 0) (dCons (dVar 1) dNil)))))
def m_is_rest : List PyData → R PyData := runD 2 2 g_is_rest
def g_law_tells_k22 : Sn := (gSeq (gSet (dArg m_law_first_gain (dCons (dVar 0) (dCons (dVar 1) dNil))) (.nm 2)) (gSeq (gSet (dArg m_first_gain (dCons (dVar 0) (dCons (dVar 1) dNil))) (.nm 3)) (gSeq (gSet (dArg m_is_rest (dCons (dVar 0) (dCons (dVar 1) dNil))) (.nm 4)) (gSeq (gIf (dOr (dNot (dAsB (dOne (oIsi "bool") (dVar 4)))) (dAsB (dTwo oNe (dVar 4) (dOne (fun d => .ok (.bool (isNone d))) (dVar 2))))) (gRet (dC (.bool false))) gSkip) (gSeq (gIf (dAsB (dOne (fun d => .ok (.bool (isNone d))) (dVar 2))) (gRet (dOne (fun d => .ok (.bool (isNone d))) (dVar 3))) gSkip) (gSeq (gIf (dOr (dNot (dAsB (dOne (oIsi "tuple") (dVar 3)))) (dOr (dAsB (dTwo oNe (dVar 3) (dVar 2))) (dNot (dAsB (dArg m_law_is_integer (dCons (dTwo oIx (dVar 3) (dC (.int 0))) dNil)))))) (gRet (dC (.bool false))) gSkip) (gRet (dArg m_law_is_set (dCons (dTwo oIx (dVar 3) (dC (.int 1))) (dCons (dTwo oIx (dTwo oIx (dTwo oIx (dVar 0) (dTwo oIx (dVar 3) (dC (.int 0)))) (dC (.int 0))) (dC (.int 0))) dNil))))))))))
def m_law_tells_k22 : List PyData → R PyData := runD 5 2 g_law_tells_k22
def b_law_k22_1 : Sn := (gIf (dNot (dAsB (dArg m_law_tells_k22 (dCons (dVar 1) (dCons (dVar 6) dNil))))) (gRet (dC (.bool false))) gSkip)
def g_law_k22 : Sn := (gSeq (gSet (dArg m_law_game (dCons (dVar 0) (dCons (dC (.int 0)) (dCons (dC (.bool false)) dNil)))) (.nm 1)) (gSeq (gSet (dArg m_law_choice (dCons (dArg m_law_cell (dCons (dVar 0) (dCons (dC (.int 8)) dNil))) (dCons (dVar 1) dNil))) (.nm 2)) (gSeq (gSet (dArg m_law_choice (dCons (dArg m_law_cell (dCons (dVar 0) (dCons (dC (.int 9)) dNil))) (dCons (dVar 1) dNil))) (.nm 3)) (gSeq (gSet (dVar 2) (.nm 4)) (gSeq (gSet (dArg m_law_first_gain (dCons (dVar 1) (dCons (dVar 2) dNil))) (.nm 5)) (gSeq (gIf (dAsB (dOne (fun d => .ok (.bool (!isNone d))) (dVar 5))) (gSet (dArg m_law_with (dCons (dVar 2) (dCons (dTwo oIx (dVar 5) (dC (.int 0))) (dCons (dTwo oIx (dVar 5) (dC (.int 1))) dNil)))) (.nm 4)) gSkip) (gSeq (gFor (dItems (dLst (dCons (dVar 2) (dCons (dVar 3) (dCons (dVar 4) (dCons (dVar 2) dNil)))))) (.nm 6) b_law_k22_1) (gRet (dC (.bool true))))))))))
def m_law_k22 : List PyData → R PyData := runD 7 1 g_law_k22
end LW

set_option Elab.async false
set_option linter.all false
set_option maxRecDepth 100000
set_option maxHeartbeats 4000000
namespace LW
open PySem PySem.Spec PyProof.Rows L2 PD
def b_law_small_1 : Sn := (gSeq (gSet (dTwo oIx (dTwo oIx (dVar 2) (dC (.int 0))) (dC (.int 1))) (.nm 3)) (gSeq (gIf (dAsB (dTwo oGt (dArg bLen (dCons (dVar 0) dNil)) (dC (.int 2)))) (gSet (dCut (dVar 3) dNoP (dPart (dC (.int 4)))) (.nm 3)) gSkip) (gApp 1 (dTup (dCons (dTup (dCons (dTwo oIx (dTwo oIx (dVar 2) (dC (.int 0))) (dC (.int 0))) (dCons (dVar 3) dNil))) (dCons (dTwo oIx (dVar 2) (dC (.int 1))) dNil))))))
def g_law_small : Sn := (gSeq (gOwn (dLst dNil) 1) (gSeq (gFor (dItems (dVar 0)) (.nm 2) b_law_small_1) (gFrz 1 (gRet (dArg bTuple (dCons (dVar 1) dNil))))))
def m_law_small : List PyData → R PyData := runD 4 1 g_law_small
def b_law_choices_1 : Sn := (gApp 3 (dTwo oAdd (dVar 4) (dTup (dCons (dVar 5) dNil))))
def b_law_choices_2 : Sn := (gFor (dItems (dTwo oIx (dTwo oIx (dVar 2) (dC (.int 0))) (dC (.int 1)))) (.nm 5) b_law_choices_1)
def b_law_choices_3 : Sn := (gSeq (gOwn (dLst dNil) 3) (gSeq (gFor (dItems (dVar 1)) (.nm 4) b_law_choices_2) (gFrz 3 (gSet (dArg bList (dCons (dVar 3) dNil)) (.nm 1)))))
def g_law_choices : Sn := (gSeq (gSet (dLst (dCons (dTup dNil) dNil)) (.nm 1)) (gSeq (gFor (dItems (dVar 0)) (.nm 2) b_law_choices_3) (gRet (dVar 1))))
def m_law_choices : List PyData → R PyData := runD 6 1 g_law_choices
def b_all_choices_1 : Sn := (gSet (dLc2 (dItems (dVar 1)) (.nm 3) dYes (dItems (dTwo oIx (dTwo oIx (dVar 2) (dC (.int 0))) (dC (.int 1)))) (.nm 4) dYes (dTwo oAdd (dVar 3) (dTup (dCons (dVar 4) dNil))) [3, 4] [4]) (.nm 1))
def g_all_choices : Sn := (gSeq (gSet (dLst (dCons (dTup dNil) dNil)) (.nm 1)) (gSeq (gFor (dItems (dVar 0)) (.nm 2) b_all_choices_1) (gRet (dVar 1))))
def m_all_choices : List PyData → R PyData := runD 5 1 g_all_choices
def g_choices : Sn := (gRet (dArg bTuple (dCons (dArg m_all_choices (dCons (dArg m_players (dCons (dVar 0) dNil)) dNil)) dNil)))
def m_choices : List PyData → R PyData := runD 1 1 g_choices
def g_all_rests : Sn := (gRet (dLc (dItems (dArg m_all_choices (dCons (dVar 0) dNil))) (.nm 1) (dAsB (dOne (fun d => .ok (.bool (isNone d))) (dArg m_first_gain_for (dCons (dVar 0) (dCons (dVar 1) dNil))))) (dVar 1) [1]))
def m_all_rests : List PyData → R PyData := runD 2 1 g_all_rests
def g_rests : Sn := (gRet (dArg bTuple (dCons (dArg m_all_rests (dCons (dArg m_players (dCons (dVar 0) dNil)) dNil)) dNil)))
def m_rests : List PyData → R PyData := runD 1 1 g_rests
def b_law_are_choices_1 : Sn := (gSeq (gIf (dOr (dNot (dAsB (dOne (oIsi "tuple") (dVar 2)))) (dAsB (dTwo oNe (dArg bLen (dCons (dVar 2) dNil)) (dArg bLen (dCons (dVar 1) dNil))))) (gRet (dC (.bool false))) gSkip) (gIf (dNot (dAsB (dArg bAll (dCons (dLc (dRng1 (dCons (dArg bLen (dCons (dVar 1) dNil)) dNil)) (.nm 3) dYes (dArg m_law_is_set (dCons (dTwo oIx (dVar 2) (dVar 3)) (dCons (dTwo oIx (dTwo oIx (dTwo oIx (dVar 1) (dVar 3)) (dC (.int 0))) (dC (.int 0))) dNil))) [3]) dNil)))) (gRet (dC (.bool false))) gSkip))
def g_law_are_choices : Sn := (gSeq (gIf (dNot (dAsB (dOne (oIsi "tuple") (dVar 0)))) (gRet (dC (.bool false))) gSkip) (gSeq (gFor (dItems (dVar 0)) (.nm 2) b_law_are_choices_1) (gRet (dC (.bool true)))))
def m_law_are_choices : List PyData → R PyData := runD 4 2 g_law_are_choices
def g_law_k23 : Sn := (gSeq (gSet (dArg m_law_small (dCons (dArg m_law_game (dCons (dVar 0) (dCons (dC (.int 0)) (dCons (dC (.bool false)) dNil)))) dNil)) (.nm 1)) (gSeq (gSet (dArg m_law_choices (dCons (dVar 1) dNil)) (.nm 2)) (gSeq (gSet (dArg m_choices (dCons (dVar 1) dNil)) (.nm 3)) (gSeq (gIf (dOr (dNot (dAsB (dArg m_law_are_choices (dCons (dVar 3) (dCons (dVar 1) dNil))))) (dAsB (dTwo oNe (dArg bList (dCons (dVar 3) dNil)) (dVar 2)))) (gRet (dC (.bool false))) gSkip) (gSeq (gSet (dLc (dItems (dVar 2)) (.nm 5) (dAsB (dOne (fun d => .ok (.bool (isNone d))) (dArg m_law_first_gain (dCons (dVar 1) (dCons (dVar 5) dNil))))) (dVar 5) [5]) (.nm 4)) (gSeq (gSet (dArg m_rests (dCons (dVar 1) dNil)) (.nm 3)) (gRet (dAndV (dArg m_law_are_choices (dCons (dVar 3) (dCons (dVar 1) dNil))) (dTwo oEq (dArg bList (dCons (dVar 3) dNil)) (dVar 4))))))))))
def m_law_k23 : List PyData → R PyData := runD 6 1 g_law_k23
end LW

set_option Elab.async false
set_option linter.all false
set_option maxRecDepth 100000
set_option maxHeartbeats 4000000
namespace LW
open PySem PySem.Spec PyProof.Rows L2 PD
def b_law_drawn_set_1 : Sn := (gSeq (gIf (dAsB (dTwo oEq (dTwo oMod (dVar 2) (dC (.int 2))) (dC (.int 1)))) (gApp 3 (dVar 4)) gSkip) (gSet (dTwo oDiv (dVar 2) (dC (.int 2))) (.nm 2)))
def g_law_drawn_set : Sn := (gSeq (gSet (dArg bInt (dCons (dVar 0) dNil)) (.nm 2)) (gSeq (gOwn (dLst dNil) 3) (gSeq (gFor (dRng1 (dCons (dVar 1) dNil)) (.nm 4) b_law_drawn_set_1) (gFrz 3 (gRet (dArg bTuple (dCons (dVar 3) dNil)))))))
def m_law_drawn_set : List PyData → R PyData := runD 5 2 g_law_drawn_set
def g_law_drawn_lots : Sn := (gSeq (gSet (dArg m_law_draws (dCons (dVar 0) (dCons (dC (.int 7)) dNil))) (.nm 2)) (gRet (dArg m_law_antichain (dCons (dLc (dRng1 (dCons (dTwo oAdd (dC (.int 1)) (dTwo oMod (dArg bInt (dCons (dTwo oIx (dVar 2) (dC (.int 0))) dNil)) (dC (.int 6)))) dNil)) (.nm 3) dYes (dArg m_law_drawn_set (dCons (dTwo oIx (dVar 2) (dTwo oAdd (dC (.int 1)) (dVar 3))) (dCons (dVar 1) dNil))) [3]) dNil))))
def m_law_drawn_lots : List PyData → R PyData := runD 4 2 g_law_drawn_lots
def g_law_closed : Sn := (gRet (dArg bTuple (dCons (dTwo oAdd (dLc (dItems (dVar 0)) (.nm 2) (dAsB (dTwo oLt (dVar 2) (dVar 1))) (dVar 2) [2]) (dLc (dItems (dVar 0)) (.nm 2) (dAsB (dTwo oGt (dVar 2) (dVar 1))) (dTwo oSub (dVar 2) (dC (.int 1))) [2])) dNil)))
def m_law_closed : List PyData → R PyData := runD 3 2 g_law_closed
def g_law_smaller : Sn := (gSeq (gIf (dAsB (dTwo oEq (dArg bLen (dCons (dVar 1) dNil)) (dC (.int 0)))) (gRet (dArg bTuple (dCons (dArg bSorted (dCons (dLc (dItems (dVar 0)) (.nm 3) dYes (dArg m_law_closed (dCons (dVar 3) (dCons (dVar 2) dNil))) [3]) dNil)) dNil))) gSkip) (gRet (dArg bTuple (dCons (dArg bSorted (dCons (dLc (dItems (dVar 1)) (.nm 3) dYes (dArg m_law_closed (dCons (dVar 3) (dCons (dVar 2) dNil))) [3]) dNil)) dNil))))
def m_law_smaller : List PyData → R PyData := runD 4 3 g_law_smaller
def b_law_is_offer_1 : Sn := (gIf (dNot (dAsB (dArg m_law_is_set (dCons (dVar 3) (dCons (dVar 1) dNil))))) (gRet (dC (.bool false))) gSkip)
def g_law_is_offer : Sn := (gSeq (gIf (dOr (dNot (dAsB (dOne (oIsi "tuple") (dVar 0)))) (dOr (dAsB (dTwo oNe (dArg bLen (dCons (dVar 0) dNil)) (dC (.int 2)))) (dOr (dNot (dAsB (dArg m_law_is_integer (dCons (dTwo oIx (dVar 0) (dC (.int 0))) dNil)))) (dAsB (dTwo oNe (dTwo oIx (dVar 0) (dC (.int 0))) (dVar 1)))))) (gRet (dC (.bool false))) gSkip) (gSeq (gIf (dOr (dNot (dAsB (dOne (oIsi "tuple") (dTwo oIx (dVar 0) (dC (.int 1)))))) (dAsB (dTwo oNe (dTwo oIx (dVar 0) (dC (.int 1))) (dVar 2)))) (gRet (dC (.bool false))) gSkip) (gSeq (gFor (dItems (dTwo oIx (dVar 0) (dC (.int 1)))) (.nm 3) b_law_is_offer_1) (gRet (dC (.bool true))))))
def m_law_is_offer : List PyData → R PyData := runD 4 3 g_law_is_offer
def b_law_tells_k31_1 : Sn := (gSeq (gSet (dArg m_law_smaller (dCons (dTwo oIx (dVar 0) (dC (.int 1))) (dCons (dLc (dItems (dTwo oIx (dVar 0) (dC (.int 1)))) (.nm 4) (dAsB (dTwo oNotIn (dVar 2) (dVar 4))) (dVar 4) [4]) (dCons (dVar 2) dNil)))) (.nm 3)) (gSeq (gIf (dNot (dAsB (dArg m_law_is_offer (dCons (dArg m_without (dCons (dVar 0) (dCons (dVar 2) dNil))) (dCons (dTwo oSub (dVar 1) (dC (.int 1))) (dCons (dVar 3) dNil)))))) (gRet (dC (.bool false))) gSkip) (gSeq (gSet (dArg m_law_smaller (dCons (dTwo oIx (dVar 0) (dC (.int 1))) (dCons (dLc (dItems (dTwo oIx (dVar 0) (dC (.int 1)))) (.nm 4) (dAsB (dTwo oIn (dVar 2) (dVar 4))) (dVar 4) [4]) (dCons (dVar 2) dNil)))) (.nm 3)) (gIf (dNot (dAsB (dArg m_law_is_offer (dCons (dArg m_holding (dCons (dVar 0) (dCons (dVar 2) dNil))) (dCons (dTwo oSub (dVar 1) (dC (.int 1))) (dCons (dVar 3) dNil)))))) (gRet (dC (.bool false))) gSkip))))
def g_law_tells_k31 : Sn := (gSeq (gSet (dTwo oIx (dVar 0) (dC (.int 0))) (.nm 1)) (gSeq (gFor (dRng1 (dCons (dVar 1) dNil)) (.nm 2) b_law_tells_k31_1) (gRet (dC (.bool true)))))
def m_law_tells_k31 : List PyData → R PyData := runD 5 1 g_law_tells_k31
def g_law_k31 : Sn := (gSeq (gSet (dArg m_law_draws (dCons (dArg m_law_cell (dCons (dVar 0) (dCons (dC (.int 0)) dNil))) (dCons (dC (.int 2)) dNil))) (.nm 1)) (gSeq (gSet (dTwo oIx (dTup (dCons (dC (.int 4)) (dCons (dC (.int 3)) (dCons (dC (.int 5)) (dCons (dC (.int 2)) (dCons (dC (.int 4)) (dCons (dC (.int 1)) dNil))))))) (dTwo oMod (dArg bInt (dCons (dTwo oIx (dVar 1) (dC (.int 0))) dNil)) (dC (.int 6)))) (.nm 2)) (gSeq (gSet (dTwo oAdd (dC (.int 6)) (dTwo oMod (dArg bInt (dCons (dTwo oIx (dVar 1) (dC (.int 1))) dNil)) (dC (.int 7)))) (.nm 3)) (gSeq (gSet (dTup (dCons (dVar 2) (dCons (dArg m_law_lots (dCons (dArg m_law_cell (dCons (dVar 0) (dCons (dC (.int 1)) dNil))) (dCons (dVar 2) dNil))) dNil))) (.nm 4)) (gSeq (gSet (dTup (dCons (dVar 3) (dCons (dArg m_law_drawn_lots (dCons (dArg m_law_cell (dCons (dVar 0) (dCons (dC (.int 2)) dNil))) (dCons (dVar 3) dNil))) dNil))) (.nm 5)) (gRet (dAndV (dArg m_law_tells_k31 (dCons (dVar 4) dNil)) (dAndV (dArg m_law_tells_k31 (dCons (dVar 5) dNil)) (dArg m_law_tells_k31 (dCons (dVar 4) dNil))))))))))
def m_law_k31 : List PyData → R PyData := runD 6 1 g_law_k31
end LW

set_option Elab.async false
set_option linter.all false
set_option maxRecDepth 100000
set_option maxHeartbeats 4000000
namespace LW
open PySem PySem.Spec PyProof.Rows L2 PD
def b_law_game_k47_1 : Sn := (gSeq (gSet (dArg m_law_costs (dCons (dArg m_law_cell (dCons (dVar 0) (dCons (dC (.int 1)) dNil))) (dCons (dVar 4) (dCons (dVar 5) (dCons (dVar 6) dNil))))) (.nm 9)) (gSeq (gIf (dAsB (dTwo oEq (dTwo oMod (dArg bInt (dCons (dTwo oIx (dVar 1) (dC (.int 4))) dNil)) (dC (.int 2))) (dC (.int 0)))) (gSet (dArg m_law_costs (dCons (dArg m_law_cell (dCons (dVar 0) (dCons (dTwo oAdd (dC (.int 2)) (dTwo oMul (dC (.int 2)) (dVar 8))) dNil))) (dCons (dVar 4) (dCons (dVar 5) (dCons (dVar 6) dNil))))) (.nm 9)) gSkip) (gSeq (gSet (dArg m_law_cell (dCons (dVar 0) (dCons (dTwo oAdd (dC (.int 3)) (dTwo oMul (dC (.int 2)) (dVar 8))) dNil))) (.nm 10)) (gIf (dAsB (dVar 2)) (gApp 7 (dTup (dCons (dTup (dCons (dVar 4) (dCons (dCut (dArg m_law_drawn_lots (dCons (dVar 10) (dCons (dVar 4) dNil))) dNoP (dPart (dC (.int 2)))) dNil))) (dCons (dVar 9) dNil)))) (gApp 7 (dTup (dCons (dTup (dCons (dVar 4) (dCons (dArg m_law_lots (dCons (dVar 10) (dCons (dVar 4) dNil))) dNil))) (dCons (dVar 9) dNil))))))))
def g_law_game_k47 : Sn := (gSeq (gSet (dArg m_law_draws (dCons (dArg m_law_cell (dCons (dVar 0) (dCons (dC (.int 0)) dNil))) (dCons (dC (.int 6)) dNil))) (.nm 1)) (gSeq (gSet (dTwo oEq (dTwo oMod (dArg bInt (dCons (dTwo oIx (dVar 1) (dC (.int 5))) dNil)) (dC (.int 8))) (dC (.int 1))) (.nm 2)) (gSeq (gSet (dTwo oIx (dTup (dCons (dC (.int 2)) (dCons (dC (.int 3)) (dCons (dC (.int 2)) (dCons (dC (.int 1)) (dCons (dC (.int 3)) (dCons (dC (.int 2)) (dCons (dC (.int 0)) (dCons (dC (.int 2)) dNil))))))))) (dTwo oMod (dArg bInt (dCons (dTwo oIx (dVar 1) (dC (.int 0))) dNil)) (dC (.int 8)))) (.nm 3)) (gSeq (gSet (dTwo oIx (dTup (dCons (dC (.int 3)) (dCons (dC (.int 4)) (dCons (dC (.int 3)) (dCons (dC (.int 2)) (dCons (dC (.int 4)) (dCons (dC (.int 1)) (dCons (dC (.int 3)) (dCons (dC (.int 0)) dNil))))))))) (dTwo oMod (dArg bInt (dCons (dTwo oIx (dVar 1) (dC (.int 1))) dNil)) (dC (.int 8)))) (.nm 4)) (gSeq (gIf (dAsB (dVar 2)) (gSeq (gSet (dTwo oAdd (dC (.int 4)) (dTwo oMod (dArg bInt (dCons (dTwo oIx (dVar 1) (dC (.int 0))) dNil)) (dC (.int 3)))) (.nm 3)) (gSet (dTwo oAdd (dC (.int 6)) (dTwo oMod (dArg bInt (dCons (dTwo oIx (dVar 1) (dC (.int 1))) dNil)) (dC (.int 7)))) (.nm 4))) gSkip) (gSeq (gSet (dTwo oAdd (dVar 3) (dTwo oMod (dArg bInt (dCons (dTwo oIx (dVar 1) (dC (.int 2))) dNil)) (dC (.int 2)))) (.nm 5)) (gSeq (gSet (dTwo oEq (dTwo oMod (dArg bInt (dCons (dTwo oIx (dVar 1) (dC (.int 3))) dNil)) (dC (.int 8))) (dC (.int 1))) (.nm 6)) (gSeq (gOwn (dLst dNil) 7) (gSeq (gFor (dRng1 (dCons (dVar 3) dNil)) (.nm 8) b_law_game_k47_1) (gFrz 7 (gRet (dArg bTuple (dCons (dVar 7) dNil)))))))))))))
def m_law_game_k47 : List PyData → R PyData := runD 11 1 g_law_game_k47
def g_total : Sn := (gRet (dArg bSum (dCons (dLc (dRng1 (dCons (dArg bLen (dCons (dVar 0) dNil)) dNil)) (.nm 2) dYes (dArg m_pay (dCons (dVar 0) (dCons (dVar 1) (dCons (dVar 2) dNil)))) [2]) dNil)))
def m_total : List PyData → R PyData := runD 3 2 g_total
def g_least_total : Sn := (gRet (dArg bMin (dCons (dLc (dItems (dArg m_choices (dCons (dVar 0) dNil))) (.nm 1) dYes (dArg m_total (dCons (dVar 0) (dCons (dVar 1) dNil))) [1]) dNil)))
def m_least_total : List PyData → R PyData := runD 2 1 g_least_total
def b_law_total_1 : Sn := (gSet (dTwo oAdd (dVar 3) (dTwo oIx (dTwo oIx (dTwo oIx (dTwo oIx (dVar 0) (dVar 4)) (dC (.int 1))) (dVar 5)) (dTwo oSub (dTwo oIx (dVar 2) (dVar 5)) (dC (.int 1))))) (.nm 3))
def b_law_total_2 : Sn := (gFor (dItems (dTwo oIx (dVar 1) (dVar 4))) (.nm 5) b_law_total_1)
def g_law_total : Sn := (gSeq (gIf (dAsB (dTwo oEq (dArg bLen (dCons (dVar 0) dNil)) (dC (.int 0)))) (gRet (dC (.int 0))) gSkip) (gSeq (gSet (dArg m_law_loads (dCons (dVar 1) (dCons (dTwo oIx (dTwo oIx (dTwo oIx (dVar 0) (dC (.int 0))) (dC (.int 0))) (dC (.int 0))) dNil))) (.nm 2)) (gSeq (gSet (dC (.int 0)) (.nm 3)) (gSeq (gFor (dRng1 (dCons (dArg bLen (dCons (dVar 0) dNil)) dNil)) (.nm 4) b_law_total_2) (gRet (dVar 3))))))
def m_law_total : List PyData → R PyData := runD 6 2 g_law_total
def b_law_choices_k47_1 : Sn := (gSet (dTwo oAdd (dVar 3) (dLc (dItems (dTwo oIx (dTwo oIx (dVar 2) (dC (.int 0))) (dC (.int 1)))) (.nm 5) dYes (dTwo oAdd (dVar 4) (dTup (dCons (dVar 5) dNil))) [5])) (.nm 3))
def b_law_choices_k47_2 : Sn := (gSeq (gSet (dLst dNil) (.nm 3)) (gSeq (gFor (dItems (dVar 1)) (.nm 4) b_law_choices_k47_1) (gSet (dVar 3) (.nm 1))))
def g_law_choices_k47 : Sn := (gSeq (gSet (dLst (dCons (dTup dNil) dNil)) (.nm 1)) (gSeq (gFor (dItems (dVar 0)) (.nm 2) b_law_choices_k47_2) (gRet (dVar 1))))
def m_law_choices_k47 : List PyData → R PyData := runD 6 1 g_law_choices_k47
def b_law_k47_1 : Sn := (gSeq (gSet (dArg m_total (dCons (dVar 1) (dCons (dVar 5) dNil))) (.nm 6)) (gIf (dOr (dNot (dAsB (dArg m_law_is_integer (dCons (dVar 6) dNil)))) (dOr (dAsB (dTwo oNe (dVar 6) (dArg m_law_total (dCons (dVar 1) (dCons (dVar 5) dNil))))) (dAsB (dTwo oLt (dVar 6) (dVar 4))))) (gRet (dC (.bool false))) gSkip))
def g_law_k47 : Sn := (gSeq (gSet (dArg m_law_game_k47 (dCons (dVar 0) dNil)) (.nm 1)) (gSeq (gSet (dArg m_law_choice (dCons (dArg m_law_cell (dCons (dVar 0) (dCons (dC (.int 14)) dNil))) (dCons (dVar 1) dNil))) (.nm 2)) (gSeq (gSet (dArg m_law_choice (dCons (dArg m_law_cell (dCons (dVar 0) (dCons (dC (.int 15)) dNil))) (dCons (dVar 1) dNil))) (.nm 3)) (gSeq (gSet (dArg m_least_total (dCons (dVar 1) dNil)) (.nm 4)) (gSeq (gIf (dOr (dNot (dAsB (dArg m_law_is_integer (dCons (dVar 4) dNil)))) (dAsB (dTwo oNe (dVar 4) (dArg bMin (dCons (dLc (dItems (dArg m_law_choices_k47 (dCons (dVar 1) dNil))) (.nm 5) dYes (dArg m_law_total (dCons (dVar 1) (dCons (dVar 5) dNil))) [5]) dNil))))) (gRet (dC (.bool false))) gSkip) (gSeq (gFor (dItems (dLst (dCons (dVar 2) (dCons (dVar 3) (dCons (dVar 2) dNil))))) (.nm 5) b_law_k47_1) (gRet (dTwo oEq (dArg m_least_total (dCons (dVar 1) dNil)) (dVar 4)))))))))
def m_law_k47 : List PyData → R PyData := runD 7 1 g_law_k47
end LW

set_option Elab.async false
set_option linter.all false
set_option maxRecDepth 100000
set_option maxHeartbeats 4000000
namespace LW
open PySem PySem.Spec PyProof.Rows L2 PD
section
variable {P : Program} {w : World} {K : PySem.W.Frag} {mg : Str → Option Value} {base : Heap} {Tb : List Addr}
def topS (i : Nat) : Stmt := PySem.Challenge.pw_takersrest_k47_totals.main.body.getD i (.Pass ⟨0, 0, 0, 0⟩)
abbrev s_law_draws : Stmt := topS 18
theorem sc_law_draws : FnScope ["cell", "count", "rest", "digits", "seed", "draws", "k", "mixed"] ["cell", "count"] (defScope s_law_draws) := ⟨rfl, rfl, rfl, by decide +kernel, rfl, by decide +kernel, by decide +kernel⟩
theorem ok_law_draws {a : Addr} {fd : FuncData} (F : Fun K "_law_draws" "_law_draws" s_law_draws a fd) (hg : mg "_law_draws" = some (.ref a)) (hb : Binds K fd ["cell", "count"] []) (B : Bi mg) : FnD P w K mg base Tb "_law_draws" 1 m_law_draws := ⟨a, fd, ["cell", "count"], fn_okD F sc_law_draws fun cdv A outer s H E hr => 
  (fs_cons (fs_set (i := 2) sc_law_draws.nd rfl (.inl rfl) (e_abs B (fa_cons (e_int B (fa_cons (fd_var 0) fa_nil)) fa_nil))) (fs_cons (fs_set (i := 3) sc_law_draws.nd rfl (.inl rfl) (e_ge (fd_var 2) (fd_pow fd_int fd_int))) (fs_cons (fs_set (i := 4) sc_law_draws.nd rfl (.inl rfl) (fd_var 2)) (fs_cons (fs_own (i := 5) sc_law_draws.nd rfl (.inl rfl) (fn_lst fa_nil)) (fs_cons (fs_for (passes_of rfl) rfl (fi_rng1 (by rfl) B.range (fa_cons (fd_var 1) fa_nil)) (fg_nm (i := 6) sc_law_draws.nd rfl (.inl rfl)) (fs_one (fs_if (PW.pt (fw_and (ft_val (fd_var 3)) (fw_and1 (t_gt (fd_var 2) fd_int)))) (fs_cons (fs_app (i := 5) rfl (.inl rfl) (by decide) (by decide) (fd_mod (e_int B (fa_cons (fd_var 2) fa_nil)) fd_int) rfl rfl rfl rfl rfl rfl) (fs_one (fs_set (i := 2) sc_law_draws.nd rfl (.inl rfl) (fd_div (fd_var 2) fd_int)))) (fs_cons (fs_set (i := 7) sc_law_draws.nd rfl (.inl rfl) (fd_mod (e_int B (fa_cons (fd_add (fd_add (fd_mul (fd_var 4) fd_int) (fd_mul (fd_add (fd_var 6) fd_int) fd_int)) fd_int) fa_nil)) fd_int)) (fs_cons (fs_set (i := 7) sc_law_draws.nd rfl (.inl rfl) (fd_mod (e_int B (fa_cons (fd_add (fd_mul (fd_var 7) (fd_var 7)) (fd_mul fd_int (fd_add (fd_var 6) fd_int))) fa_nil)) fd_int)) (fs_one (fs_app (i := 5) rfl (.inl rfl) (by decide) (by decide) (fd_mod (e_int B (fa_cons (fd_div (fd_var 7) fd_int) fa_nil)) fd_int) rfl rfl rfl rfl rfl rfl))))))) (fs_frz 5 (fs_one (fs_ret (fd_var 5))))))))), hg, F.kp, hb⟩
abbrev s_law_cell : Stmt := topS 17
theorem sc_law_cell : FnScope ["script", "k"] ["script", "k"] (defScope s_law_cell) := ⟨rfl, rfl, rfl, by decide +kernel, rfl, by decide +kernel, by decide +kernel⟩
theorem ok_law_cell {a : Addr} {fd : FuncData} (F : Fun K "_law_cell" "_law_cell" s_law_cell a fd) (hg : mg "_law_cell" = some (.ref a)) (hb : Binds K fd ["script", "k"] []) (B : Bi mg) : FnD P w K mg base Tb "_law_cell" 1 m_law_cell := ⟨a, fd, ["script", "k"], fn_okD F sc_law_cell fun cdv A outer s H E hr => 
  (fs_cons (fs_if (t_lt (fd_var 1) (e_len B (fa_cons (fd_var 0) fa_nil))) (fs_one (fs_ret (e_ix (fd_var 0) (fd_var 1)))) fs_nil) (fs_one (fs_ret (fd_add (fd_mul fd_int (fd_var 1)) fd_int)))), hg, F.kp, hb⟩
abbrev s_law_costs : Stmt := topS 28
theorem sc_law_costs : FnScope ["cell", "size", "room", "great", "draws", "rows", "thing", "cost", "row", "k", "draw"] ["cell", "size", "room", "great"] (defScope s_law_costs) := ⟨rfl, rfl, rfl, by decide +kernel, rfl, by decide +kernel, by decide +kernel⟩
theorem ok_law_costs {a : Addr} {fd : FuncData} (F : Fun K "_law_costs" "_law_costs" s_law_costs a fd) (D_law_draws : FnD P w K mg base Tb "_law_draws" 1 m_law_draws) (hg : mg "_law_costs" = some (.ref a)) (hb : Binds K fd ["cell", "size", "room", "great"] []) (B : Bi mg) : FnD P w K mg base Tb "_law_costs" 2 m_law_costs := ⟨a, fd, ["cell", "size", "room", "great"], fn_okD F sc_law_costs fun cdv A outer s H E hr => 
  (fs_cons (fs_set (i := 4) sc_law_costs.nd rfl (.inl rfl) (e_call D_law_draws (fun σ => lets_of (takes_of rfl rfl rfl rfl) σ) hr (fa_cons (fd_var 0) (fa_cons (fd_add (fd_mul (fd_var 1) (fd_var 2)) fd_int) fa_nil)))) (fs_cons (fs_own (i := 5) sc_law_costs.nd rfl (.inl rfl) (fn_lst fa_nil)) (fs_cons (fs_for (passes_of rfl) rfl (fi_rng1 (by rfl) B.range (fa_cons (fd_var 1) fa_nil)) (fg_nm (i := 6) sc_law_costs.nd rfl (.inl rfl)) (fs_cons (fs_set (i := 7) sc_law_costs.nd rfl (.inl rfl) (fd_sub (fd_mod (e_int B (fa_cons (e_ix (fd_var 4) (fd_mul (fd_var 6) (fd_var 2))) fa_nil)) fd_int) fd_int)) (fs_cons (fs_own (i := 8) sc_law_costs.nd rfl (.inl rfl) (fn_lst fa_nil)) (fs_cons (fs_for (passes_of rfl) rfl (fi_rng1 (by rfl) B.range (fa_cons (fd_var 2) fa_nil)) (fg_nm (i := 9) sc_law_costs.nd rfl (.inl rfl)) (fs_cons (fs_set (i := 10) sc_law_costs.nd rfl (.inl rfl) (e_int B (fa_cons (e_ix (fd_var 4) (fd_add (fd_mul (fd_var 6) (fd_var 2)) (fd_var 9))) fa_nil))) (fs_cons (fs_if (t_gt (fd_var 9) fd_int) (fs_one (fs_set (i := 7) sc_law_costs.nd rfl (.inl rfl) (fd_add (fd_var 7) (fd_mul (fd_mod (fd_var 10) fd_int) (fd_mod (fd_div (fd_var 10) fd_int) fd_int))))) fs_nil) (fs_one (fs_if (ft_val (fd_var 3)) (fs_one (fs_app (i := 8) rfl (.inl rfl) (by decide) (by decide) (fd_add (fd_add (fd_mul (fd_var 7) (fd_pow fd_int fd_int)) (fd_var 9)) (fd_var 6)) rfl rfl rfl rfl rfl rfl)) (fs_one (fs_app (i := 8) rfl (.inl rfl) (by decide) (by decide) (fd_var 7) rfl rfl rfl rfl rfl rfl))))))) (fs_frz 8 (fs_one (fs_app (i := 5) rfl (.inl rfl) (by decide) (by decide) (e_tuple B (fa_cons (fd_var 8) fa_nil)) rfl rfl rfl rfl rfl rfl))))))) (fs_frz 5 (fs_one (fs_ret (e_tuple B (fa_cons (fd_var 5) fa_nil)))))))), hg, F.kp, hb⟩
abbrev s_law_parts_of : Stmt := topS 20
theorem sc_law_parts_of : FnScope ["size", "rows", "thing", "row"] ["size"] (defScope s_law_parts_of) := ⟨rfl, rfl, rfl, by decide +kernel, rfl, by decide +kernel, by decide +kernel⟩
theorem ok_law_parts_of {a : Addr} {fd : FuncData} (F : Fun K "_law_parts_of" "_law_parts_of" s_law_parts_of a fd) (hg : mg "_law_parts_of" = some (.ref a)) (hb : Binds K fd ["size"] []) (B : Bi mg) : FnD P w K mg base Tb "_law_parts_of" 1 m_law_parts_of := ⟨a, fd, ["size"], fn_okD F sc_law_parts_of fun cdv A outer s H E hr => 
  (fs_cons (fs_set (i := 1) sc_law_parts_of.nd rfl (.inl rfl) (fd_lst (fa_cons (fd_tup fa_nil) fa_nil))) (fs_cons (fs_for (passes_of rfl) rfl (fi_rng1 (by rfl) B.range (fa_cons (fd_var 0) fa_nil)) (fg_nm (i := 2) sc_law_parts_of.nd rfl (.inr rfl)) (fs_one (fs_set (i := 1) sc_law_parts_of.nd rfl (.inl rfl) (fd_add (fd_var 1) (fd_lc rfl sc_law_parts_of.nd (fi_seq (fd_var 1)) (own := [("row", 3)]) (blkOk_by (by rfl)) (fun _ _ _ _ _ => (fg_nm (i := 3) sc_law_parts_of.nd rfl (.inl rfl))) (fun _ _ _ _ _ => ft_yes) (fun _ _ _ _ _ => (fd_add (fd_var 3) (fd_tup (fa_cons (fd_var 2) fa_nil))))))))) (fs_one (fs_ret (e_sorted B hr (fa_cons (fd_var 1) fa_nil)))))), hg, F.kp, hb⟩
abbrev s_law_within : Stmt := topS 21
theorem sc_law_within : FnScope ["inner", "outer", "thing"] ["inner", "outer"] (defScope s_law_within) := ⟨rfl, rfl, rfl, by decide +kernel, rfl, by decide +kernel, by decide +kernel⟩
theorem ok_law_within {a : Addr} {fd : FuncData} (F : Fun K "_law_within" "_law_within" s_law_within a fd) (hg : mg "_law_within" = some (.ref a)) (hb : Binds K fd ["inner", "outer"] []) (B : Bi mg) : FnD P w K mg base Tb "_law_within" 1 m_law_within := ⟨a, fd, ["inner", "outer"], fn_okD F sc_law_within fun cdv A outer s H E hr => 
  (fs_one (fs_ret (e_all B (fa_cons (fd_lc rfl sc_law_within.nd (fi_seq (fd_var 0)) (own := [("thing", 2)]) (blkOk_by (by rfl)) (fun _ _ _ _ _ => (fg_nm (i := 2) sc_law_within.nd rfl (.inl rfl))) (fun _ _ _ _ _ => ft_yes) (fun _ _ _ _ _ => (e_in hr (fd_var 2) (fd_var 1)))) fa_nil)))), hg, F.kp, hb⟩
abbrev s_law_antichain : Stmt := topS 22
theorem sc_law_antichain : FnScope ["rows", "kept", "row", "other"] ["rows"] (defScope s_law_antichain) := ⟨rfl, rfl, rfl, by decide +kernel, rfl, by decide +kernel, by decide +kernel⟩
theorem ok_law_antichain {a : Addr} {fd : FuncData} (F : Fun K "_law_antichain" "_law_antichain" s_law_antichain a fd) (D_law_within : FnD P w K mg base Tb "_law_within" 1 m_law_within) (hg : mg "_law_antichain" = some (.ref a)) (hb : Binds K fd ["rows"] []) (B : Bi mg) : FnD P w K mg base Tb "_law_antichain" 2 m_law_antichain := ⟨a, fd, ["rows"], fn_okD F sc_law_antichain fun cdv A outer s H E hr => 
  (fs_cons (fs_own (i := 1) sc_law_antichain.nd rfl (.inl rfl) (fn_lst fa_nil)) (fs_cons (fs_for (passes_of rfl) rfl (fi_seq (e_sorted B hr (fa_cons (fd_var 0) fa_nil))) (fg_nm (i := 2) sc_law_antichain.nd rfl (.inr rfl)) (fs_one (fs_if (ft_thaw (PW.pt (fw_and (t_notin hr (fd_var 2) (fd_var 1)) (fw_and1 (ft_not (ft_val (e_any B (fa_cons (fd_lc rfl sc_law_antichain.nd (fi_seq (fd_var 0)) (own := [("other", 3)]) (blkOk_by (by rfl)) (fun _ _ _ _ _ => (fg_nm (i := 3) sc_law_antichain.nd rfl (.inl rfl))) (fun _ _ _ _ _ => ft_yes) (fun _ _ _ _ _ => (fd_and (e_ne hr (fd_var 2) (fd_var 3)) (fd_one (e_call D_law_within (fun σ => lets0 σ) hr (fa_cons (fd_var 2) (fa_cons (fd_var 3) fa_nil))))))) fa_nil)))))))) (fs_one (fs_app (i := 1) rfl (.inl rfl) (by decide) (by decide) (fd_var 2) rfl rfl rfl rfl rfl rfl)) fs_nil))) (fs_frz 1 (fs_one (fs_ret (e_tuple B (fa_cons (fd_var 1) fa_nil))))))), hg, F.kp, hb⟩
abbrev s_law_any_lots : Stmt := topS 23
theorem sc_law_any_lots : FnScope ["cell", "size", "draws", "parts", "rows", "k"] ["cell", "size"] (defScope s_law_any_lots) := ⟨rfl, rfl, rfl, by decide +kernel, rfl, by decide +kernel, by decide +kernel⟩
theorem ok_law_any_lots {a : Addr} {fd : FuncData} (F : Fun K "_law_any_lots" "_law_any_lots" s_law_any_lots a fd) (D_law_draws : FnD P w K mg base Tb "_law_draws" 1 m_law_draws) (D_law_parts_of : FnD P w K mg base Tb "_law_parts_of" 1 m_law_parts_of) (D_law_antichain : FnD P w K mg base Tb "_law_antichain" 2 m_law_antichain) (hg : mg "_law_any_lots" = some (.ref a)) (hb : Binds K fd ["cell", "size"] []) (B : Bi mg) : FnD P w K mg base Tb "_law_any_lots" 3 m_law_any_lots := ⟨a, fd, ["cell", "size"], fn_okD F sc_law_any_lots fun cdv A outer s H E hr => 
  (fs_cons (fs_set (i := 2) sc_law_any_lots.nd rfl (.inr rfl) (e_call D_law_draws (fun σ => lets_of (takes_of rfl rfl rfl rfl) σ) hr (fa_cons (fd_var 0) (fa_cons fd_int fa_nil)))) (fs_cons (fs_set (i := 3) sc_law_any_lots.nd rfl (.inr rfl) (e_call D_law_parts_of (fun σ => lets_of (takes_of rfl rfl rfl rfl) σ) hr (fa_cons (fd_var 1) fa_nil))) (fs_cons (fs_setLc (i := 4) rfl sc_law_any_lots.nd rfl rfl (by rfl) (fi_rng1 (by rfl) B.range (fa_cons (fd_add fd_int (fd_mod (e_int B (fa_cons (e_ix (fd_var 2) fd_int) fa_nil)) fd_int)) fa_nil)) (own := [("k", 5)]) (blkOk_by (by rfl)) (fun _ _ _ _ _ => (fg_nm (i := 5) sc_law_any_lots.nd rfl (.inl rfl))) (fun _ _ _ _ _ => ft_yes) (fun _ _ _ _ _ => (e_ix (fd_var 3) (fd_mod (e_int B (fa_cons (e_ix (fd_var 2) (fd_add fd_int (fd_var 5))) fa_nil)) (e_len B (fa_cons (fd_var 3) fa_nil)))))) (fs_one (fs_ret (e_call D_law_antichain (fun σ => lets_of (takes_of rfl rfl rfl rfl) σ) hr (fa_cons (fd_var 4) fa_nil))))))), hg, F.kp, hb⟩
abbrev s_law_rest : Stmt := topS 25
theorem sc_law_rest : FnScope ["row", "size", "thing"] ["row", "size"] (defScope s_law_rest) := ⟨rfl, rfl, rfl, by decide +kernel, rfl, by decide +kernel, by decide +kernel⟩
theorem ok_law_rest {a : Addr} {fd : FuncData} (F : Fun K "_law_rest" "_law_rest" s_law_rest a fd) (hg : mg "_law_rest" = some (.ref a)) (hb : Binds K fd ["row", "size"] []) (B : Bi mg) : FnD P w K mg base Tb "_law_rest" 1 m_law_rest := ⟨a, fd, ["row", "size"], fn_okD F sc_law_rest fun cdv A outer s H E hr => 
  (fs_one (fs_ret (e_tuple B (fa_cons (fd_lc rfl sc_law_rest.nd (fi_rng1 (by rfl) B.range (fa_cons (fd_var 1) fa_nil)) (own := [("thing", 2)]) (blkOk_by (by rfl)) (fun _ _ _ _ _ => (fg_nm (i := 2) sc_law_rest.nd rfl (.inl rfl))) (fun _ _ _ _ _ => (ft_one (t_notin hr (fd_var 2) (fd_var 0)))) (fun _ _ _ _ _ => (fd_var 2))) fa_nil)))), hg, F.kp, hb⟩
abbrev s_law_count : Stmt := topS 24
theorem sc_law_count : FnScope ["row", "classes", "c", "thing"] ["row", "classes", "c"] (defScope s_law_count) := ⟨rfl, rfl, rfl, by decide +kernel, rfl, by decide +kernel, by decide +kernel⟩
theorem ok_law_count {a : Addr} {fd : FuncData} (F : Fun K "_law_count" "_law_count" s_law_count a fd) (hg : mg "_law_count" = some (.ref a)) (hb : Binds K fd ["row", "classes", "c"] []) (B : Bi mg) : FnD P w K mg base Tb "_law_count" 1 m_law_count := ⟨a, fd, ["row", "classes", "c"], fn_okD F sc_law_count fun cdv A outer s H E hr => 
  (fs_one (fs_ret (e_len B (fa_cons (fd_lc rfl sc_law_count.nd (fi_seq (fd_var 0)) (own := [("thing", 3)]) (blkOk_by (by rfl)) (fun _ _ _ _ _ => (fg_nm (i := 3) sc_law_count.nd rfl (.inl rfl))) (fun _ _ _ _ _ => (ft_one (t_eq hr (e_ix (fd_var 1) (fd_var 3)) (fd_var 2)))) (fun _ _ _ _ _ => (fd_var 3))) fa_nil)))), hg, F.kp, hb⟩
abbrev s_law_smooth_lots : Stmt := topS 26
theorem sc_law_smooth_lots : FnScope ["cell", "size", "draws", "classes", "bounds", "rows", "row", "count", "lots", "thing", "c"] ["cell", "size"] (defScope s_law_smooth_lots) := ⟨rfl, rfl, rfl, by decide +kernel, rfl, by decide +kernel, by decide +kernel⟩
theorem ok_law_smooth_lots {a : Addr} {fd : FuncData} (F : Fun K "_law_smooth_lots" "_law_smooth_lots" s_law_smooth_lots a fd) (D_law_draws : FnD P w K mg base Tb "_law_draws" 1 m_law_draws) (D_law_parts_of : FnD P w K mg base Tb "_law_parts_of" 1 m_law_parts_of) (D_law_rest : FnD P w K mg base Tb "_law_rest" 1 m_law_rest) (D_law_count : FnD P w K mg base Tb "_law_count" 1 m_law_count) (hg : mg "_law_smooth_lots" = some (.ref a)) (hb : Binds K fd ["cell", "size"] []) (B : Bi mg) : FnD P w K mg base Tb "_law_smooth_lots" 2 m_law_smooth_lots := ⟨a, fd, ["cell", "size"], fn_okD F sc_law_smooth_lots fun cdv A outer s H E hr => 
  (fs_cons (fs_set (i := 2) sc_law_smooth_lots.nd rfl (.inr rfl) (e_call D_law_draws (fun σ => lets_of (takes_of rfl rfl rfl rfl) σ) hr (fa_cons (fd_var 0) (fa_cons (fd_add fd_int (fd_var 1)) fa_nil)))) (fs_cons (fs_set (i := 3) sc_law_smooth_lots.nd rfl (.inr rfl) (fd_lc rfl sc_law_smooth_lots.nd (fi_rng1 (by rfl) B.range (fa_cons (fd_var 1) fa_nil)) (own := [("thing", 9)]) (blkOk_by (by rfl)) (fun _ _ _ _ _ => (fg_nm (i := 9) sc_law_smooth_lots.nd rfl (.inl rfl))) (fun _ _ _ _ _ => ft_yes) (fun _ _ _ _ _ => (fd_mod (e_int B (fa_cons (e_ix (fd_var 2) (fd_add fd_int (fd_var 9))) fa_nil)) fd_int)))) (fs_cons (fs_set (i := 4) sc_law_smooth_lots.nd rfl (.inr rfl) (fd_lst (fa_cons (fd_add fd_int (fd_mod (e_int B (fa_cons (e_ix (fd_var 2) fd_int) fa_nil)) fd_int)) (fa_cons (fd_add fd_int (fd_mod (fd_div (e_int B (fa_cons (e_ix (fd_var 2) fd_int) fa_nil)) fd_int) fd_int)) (fa_cons (fd_mod (fd_div (e_int B (fa_cons (e_ix (fd_var 2) fd_int) fa_nil)) fd_int) fd_int) fa_nil))))) (fs_cons (fs_own (i := 5) sc_law_smooth_lots.nd rfl (.inl rfl) (fn_lst fa_nil)) (fs_cons (fs_for (passes_of rfl) rfl (fi_seq (e_call D_law_parts_of (fun σ => lets_of (takes_of rfl rfl rfl rfl) σ) hr (fa_cons (fd_var 1) fa_nil))) (fg_nm (i := 6) sc_law_smooth_lots.nd rfl (.inr rfl)) (fs_one (fs_if (ft_val (e_all B (fa_cons (fd_lc rfl sc_law_smooth_lots.nd (fi_rng1 (by rfl) B.range (fa_cons fd_int fa_nil)) (own := [("c", 10)]) (blkOk_by (by rfl)) (fun _ _ _ _ _ => (fg_nm (i := 10) sc_law_smooth_lots.nd rfl (.inl rfl))) (fun _ _ _ _ _ => ft_yes) (fun _ _ _ _ _ => (e_le (e_call D_law_count (fun σ => lets0 σ) hr (fa_cons (fd_var 6) (fa_cons (fd_var 3) (fa_cons (fd_var 10) fa_nil)))) (e_ix (fd_var 4) (fd_var 10))))) fa_nil))) (fs_one (fs_app (i := 5) rfl (.inl rfl) (by decide) (by decide) (fd_var 6) rfl rfl rfl rfl rfl rfl)) fs_nil))) (fs_frz 5 (fs_cons (fs_set (i := 7) sc_law_smooth_lots.nd rfl (.inr rfl) (e_min2 B (fa_cons (e_max B (fa_cons (fd_lc rfl sc_law_smooth_lots.nd (fi_seq (fd_var 5)) (own := [("row", 6)]) (blkOk_by (by rfl)) (fun _ _ _ _ _ => (fg_nm (i := 6) sc_law_smooth_lots.nd rfl (.inl rfl))) (fun _ _ _ _ _ => ft_yes) (fun _ _ _ _ _ => (e_len B (fa_cons (fd_var 6) fa_nil)))) fa_nil)) (fa_cons (e_ix (fd_tup (fa_cons fd_int (fa_cons fd_int (fa_cons fd_int (fa_cons fd_int (fa_cons fd_int (fa_cons fd_int (fa_cons fd_int (fa_cons fd_int fa_nil))))))))) (fd_mod (e_int B (fa_cons (e_ix (fd_var 2) fd_int) fa_nil)) fd_int)) fa_nil)))) (fs_cons (fs_setLc (i := 8) rfl sc_law_smooth_lots.nd rfl rfl (by rfl) (fi_seq (fd_var 5)) (own := [("row", 6)]) (blkOk_by (by rfl)) (fun _ _ _ _ _ => (fg_nm (i := 6) sc_law_smooth_lots.nd rfl (.inl rfl))) (fun _ _ _ _ _ => (ft_one (t_eq hr (e_len B (fa_cons (fd_var 6) fa_nil)) (fd_var 7)))) (fun _ _ _ _ _ => (fd_var 6))) (fs_cons (fs_if (t_eq hr (fd_mod (e_int B (fa_cons (e_ix (fd_var 2) fd_int) fa_nil)) fd_int) fd_int) (fs_one (fs_set (i := 8) sc_law_smooth_lots.nd rfl (.inl rfl) (e_sorted B hr (fa_cons (fd_lc rfl sc_law_smooth_lots.nd (fi_seq (fd_var 8)) (own := [("row", 6)]) (blkOk_by (by rfl)) (fun _ _ _ _ _ => (fg_nm (i := 6) sc_law_smooth_lots.nd rfl (.inl rfl))) (fun _ _ _ _ _ => ft_yes) (fun _ _ _ _ _ => (e_call D_law_rest (fun σ => lets0 σ) hr (fa_cons (fd_var 6) (fa_cons (fd_var 1) fa_nil))))) fa_nil)))) fs_nil) (fs_one (fs_ret (e_tuple B (fa_cons (fd_var 8) fa_nil))))))))))))), hg, F.kp, hb⟩
abbrev s_law_lots : Stmt := topS 27
theorem sc_law_lots : FnScope ["cell", "size"] ["cell", "size"] (defScope s_law_lots) := ⟨rfl, rfl, rfl, by decide +kernel, rfl, by decide +kernel, by decide +kernel⟩
theorem ok_law_lots {a : Addr} {fd : FuncData} (F : Fun K "_law_lots" "_law_lots" s_law_lots a fd) (D_law_any_lots : FnD P w K mg base Tb "_law_any_lots" 3 m_law_any_lots) (D_law_smooth_lots : FnD P w K mg base Tb "_law_smooth_lots" 2 m_law_smooth_lots) (D_law_draws : FnD P w K mg base Tb "_law_draws" 1 m_law_draws) (hg : mg "_law_lots" = some (.ref a)) (hb : Binds K fd ["cell", "size"] []) (B : Bi mg) : FnD P w K mg base Tb "_law_lots" 4 m_law_lots := ⟨a, fd, ["cell", "size"], fn_okD F sc_law_lots fun cdv A outer s H E hr => 
  (fs_cons (fs_if (t_eq hr (fd_mod (fd_div (e_int B (fa_cons (e_ix (e_call D_law_draws (fun σ => lets_of (takes_of rfl rfl rfl rfl) σ) hr (fa_cons (fd_var 0) (fa_cons fd_int fa_nil))) fd_int) fa_nil)) fd_int) fd_int) fd_int) (fs_one (fs_ret (e_call D_law_smooth_lots (fun σ => lets_of (takes_of rfl rfl rfl rfl) σ) hr (fa_cons (fd_var 0) (fa_cons (fd_var 1) fa_nil))))) fs_nil) (fs_one (fs_ret (e_call D_law_any_lots (fun σ => lets_of (takes_of rfl rfl rfl rfl) σ) hr (fa_cons (fd_var 0) (fa_cons (fd_var 1) fa_nil)))))), hg, F.kp, hb⟩
abbrev s_law_drawn_set : Stmt := topS 32
theorem sc_law_drawn_set : FnScope ["draw", "size", "left", "row", "thing"] ["draw", "size"] (defScope s_law_drawn_set) := ⟨rfl, rfl, rfl, by decide +kernel, rfl, by decide +kernel, by decide +kernel⟩
theorem ok_law_drawn_set {a : Addr} {fd : FuncData} (F : Fun K "_law_drawn_set" "_law_drawn_set" s_law_drawn_set a fd) (hg : mg "_law_drawn_set" = some (.ref a)) (hb : Binds K fd ["draw", "size"] []) (B : Bi mg) : FnD P w K mg base Tb "_law_drawn_set" 1 m_law_drawn_set := ⟨a, fd, ["draw", "size"], fn_okD F sc_law_drawn_set fun cdv A outer s H E hr => 
  (fs_cons (fs_set (i := 2) sc_law_drawn_set.nd rfl (.inl rfl) (e_int B (fa_cons (fd_var 0) fa_nil))) (fs_cons (fs_own (i := 3) sc_law_drawn_set.nd rfl (.inl rfl) (fn_lst fa_nil)) (fs_cons (fs_for (passes_of rfl) rfl (fi_rng1 (by rfl) B.range (fa_cons (fd_var 1) fa_nil)) (fg_nm (i := 4) sc_law_drawn_set.nd rfl (.inl rfl)) (fs_cons (fs_if (t_eq hr (fd_mod (fd_var 2) fd_int) fd_int) (fs_one (fs_app (i := 3) rfl (.inl rfl) (by decide) (by decide) (fd_var 4) rfl rfl rfl rfl rfl rfl)) fs_nil) (fs_one (fs_set (i := 2) sc_law_drawn_set.nd rfl (.inl rfl) (fd_div (fd_var 2) fd_int))))) (fs_frz 3 (fs_one (fs_ret (e_tuple B (fa_cons (fd_var 3) fa_nil)))))))), hg, F.kp, hb⟩
abbrev s_law_drawn_lots : Stmt := topS 33
theorem sc_law_drawn_lots : FnScope ["cell", "size", "draws", "k"] ["cell", "size"] (defScope s_law_drawn_lots) := ⟨rfl, rfl, rfl, by decide +kernel, rfl, by decide +kernel, by decide +kernel⟩
theorem ok_law_drawn_lots {a : Addr} {fd : FuncData} (F : Fun K "_law_drawn_lots" "_law_drawn_lots" s_law_drawn_lots a fd) (D_law_draws : FnD P w K mg base Tb "_law_draws" 1 m_law_draws) (D_law_antichain : FnD P w K mg base Tb "_law_antichain" 2 m_law_antichain) (D_law_drawn_set : FnD P w K mg base Tb "_law_drawn_set" 1 m_law_drawn_set) (hg : mg "_law_drawn_lots" = some (.ref a)) (hb : Binds K fd ["cell", "size"] []) (B : Bi mg) : FnD P w K mg base Tb "_law_drawn_lots" 3 m_law_drawn_lots := ⟨a, fd, ["cell", "size"], fn_okD F sc_law_drawn_lots fun cdv A outer s H E hr => 
  (fs_cons (fs_set (i := 2) sc_law_drawn_lots.nd rfl (.inr rfl) (e_call D_law_draws (fun σ => lets_of (takes_of rfl rfl rfl rfl) σ) hr (fa_cons (fd_var 0) (fa_cons fd_int fa_nil)))) (fs_one (fs_ret (e_call D_law_antichain (fun σ => lets_of (takes_of rfl rfl rfl rfl) σ) hr (fa_cons (fd_lc rfl sc_law_drawn_lots.nd (fi_rng1 (by rfl) B.range (fa_cons (fd_add fd_int (fd_mod (e_int B (fa_cons (e_ix (fd_var 2) fd_int) fa_nil)) fd_int)) fa_nil)) (own := [("k", 3)]) (blkOk_by (by rfl)) (fun _ _ _ _ _ => (fg_nm (i := 3) sc_law_drawn_lots.nd rfl (.inl rfl))) (fun _ _ _ _ _ => ft_yes) (fun _ _ _ _ _ => (e_call D_law_drawn_set (fun σ => lets0 σ) hr (fa_cons (e_ix (fd_var 2) (fd_add fd_int (fd_var 3))) (fa_cons (fd_var 1) fa_nil))))) fa_nil))))), hg, F.kp, hb⟩
abbrev s_law_game : Stmt := topS 34
theorem sc_law_game : FnScope ["script", "draws", "wide", "count", "size", "room", "great", "takers", "k", "costs", "cell"] ["script"] (defScope s_law_game) := ⟨rfl, rfl, rfl, by decide +kernel, rfl, by decide +kernel, by decide +kernel⟩
theorem ok_law_game {a : Addr} {fd : FuncData} (F : Fun K "_law_game" "_law_game" s_law_game a fd) (D_law_draws : FnD P w K mg base Tb "_law_draws" 1 m_law_draws) (D_law_cell : FnD P w K mg base Tb "_law_cell" 1 m_law_cell) (D_law_costs : FnD P w K mg base Tb "_law_costs" 2 m_law_costs) (D_law_lots : FnD P w K mg base Tb "_law_lots" 4 m_law_lots) (D_law_drawn_lots : FnD P w K mg base Tb "_law_drawn_lots" 3 m_law_drawn_lots) (hg : mg "_law_game" = some (.ref a)) (hb : Binds K fd ["script"] []) (B : Bi mg) : FnD P w K mg base Tb "_law_game" 5 m_law_game_k47 := ⟨a, fd, ["script"], fn_okD F sc_law_game fun cdv A outer s H E hr => 
  (fs_cons (fs_set (i := 1) sc_law_game.nd rfl (.inl rfl) (e_call D_law_draws (fun σ => lets_of (takes_of rfl rfl rfl rfl) σ) hr (fa_cons (e_call D_law_cell (fun σ => lets_of (takes_of rfl rfl rfl rfl) σ) hr (fa_cons (fd_var 0) (fa_cons fd_int fa_nil))) (fa_cons fd_int fa_nil)))) (fs_cons (fs_set (i := 2) sc_law_game.nd rfl (.inl rfl) (e_eq hr (fd_mod (e_int B (fa_cons (e_ix (fd_var 1) fd_int) fa_nil)) fd_int) fd_int)) (fs_cons (fs_set (i := 3) sc_law_game.nd rfl (.inl rfl) (e_ix (fd_tup (fa_cons fd_int (fa_cons fd_int (fa_cons fd_int (fa_cons fd_int (fa_cons fd_int (fa_cons fd_int (fa_cons fd_int (fa_cons fd_int fa_nil))))))))) (fd_mod (e_int B (fa_cons (e_ix (fd_var 1) fd_int) fa_nil)) fd_int))) (fs_cons (fs_set (i := 4) sc_law_game.nd rfl (.inl rfl) (e_ix (fd_tup (fa_cons fd_int (fa_cons fd_int (fa_cons fd_int (fa_cons fd_int (fa_cons fd_int (fa_cons fd_int (fa_cons fd_int (fa_cons fd_int fa_nil))))))))) (fd_mod (e_int B (fa_cons (e_ix (fd_var 1) fd_int) fa_nil)) fd_int))) (fs_cons (fs_if (ft_val (fd_var 2)) (fs_cons (fs_set (i := 3) sc_law_game.nd rfl (.inl rfl) (fd_add fd_int (fd_mod (e_int B (fa_cons (e_ix (fd_var 1) fd_int) fa_nil)) fd_int))) (fs_one (fs_set (i := 4) sc_law_game.nd rfl (.inl rfl) (fd_add fd_int (fd_mod (e_int B (fa_cons (e_ix (fd_var 1) fd_int) fa_nil)) fd_int))))) fs_nil) (fs_cons (fs_set (i := 5) sc_law_game.nd rfl (.inl rfl) (fd_add (fd_var 3) (fd_mod (e_int B (fa_cons (e_ix (fd_var 1) fd_int) fa_nil)) fd_int))) (fs_cons (fs_set (i := 6) sc_law_game.nd rfl (.inl rfl) (e_eq hr (fd_mod (e_int B (fa_cons (e_ix (fd_var 1) fd_int) fa_nil)) fd_int) fd_int)) (fs_cons (fs_own (i := 7) sc_law_game.nd rfl (.inl rfl) (fn_lst fa_nil)) (fs_cons (fs_for (passes_of rfl) rfl (fi_rng1 (by rfl) B.range (fa_cons (fd_var 3) fa_nil)) (fg_nm (i := 8) sc_law_game.nd rfl (.inl rfl)) (fs_cons (fs_set (i := 9) sc_law_game.nd rfl (.inl rfl) (e_call D_law_costs (fun σ => lets_of (takes_of rfl rfl rfl rfl) σ) hr (fa_cons (e_call D_law_cell (fun σ => lets_of (takes_of rfl rfl rfl rfl) σ) hr (fa_cons (fd_var 0) (fa_cons fd_int fa_nil))) (fa_cons (fd_var 4) (fa_cons (fd_var 5) (fa_cons (fd_var 6) fa_nil)))))) (fs_cons (fs_if (t_eq hr (fd_mod (e_int B (fa_cons (e_ix (fd_var 1) fd_int) fa_nil)) fd_int) fd_int) (fs_one (fs_set (i := 9) sc_law_game.nd rfl (.inl rfl) (e_call D_law_costs (fun σ => lets_of (takes_of rfl rfl rfl rfl) σ) hr (fa_cons (e_call D_law_cell (fun σ => lets_of (takes_of rfl rfl rfl rfl) σ) hr (fa_cons (fd_var 0) (fa_cons (fd_add fd_int (fd_mul fd_int (fd_var 8))) fa_nil))) (fa_cons (fd_var 4) (fa_cons (fd_var 5) (fa_cons (fd_var 6) fa_nil))))))) fs_nil) (fs_cons (fs_set (i := 10) sc_law_game.nd rfl (.inl rfl) (e_call D_law_cell (fun σ => lets_of (takes_of rfl rfl rfl rfl) σ) hr (fa_cons (fd_var 0) (fa_cons (fd_add fd_int (fd_mul fd_int (fd_var 8))) fa_nil)))) (fs_one (fs_if (ft_val (fd_var 2)) (fs_one (fs_app (i := 7) rfl (.inl rfl) (by decide) (by decide) (fd_tup (fa_cons (fd_tup (fa_cons (fd_var 4) (fa_cons (fd_cut (e_call D_law_drawn_lots (fun σ => lets_of (takes_of rfl rfl rfl rfl) σ) hr (fa_cons (fd_var 10) (fa_cons (fd_var 4) fa_nil))) fo_none (fo_some fd_int)) fa_nil))) (fa_cons (fd_var 9) fa_nil))) rfl rfl rfl rfl rfl rfl)) (fs_one (fs_app (i := 7) rfl (.inl rfl) (by decide) (by decide) (fd_tup (fa_cons (fd_tup (fa_cons (fd_var 4) (fa_cons (e_call D_law_lots (fun σ => lets_of (takes_of rfl rfl rfl rfl) σ) hr (fa_cons (fd_var 10) (fa_cons (fd_var 4) fa_nil))) fa_nil))) (fa_cons (fd_var 9) fa_nil))) rfl rfl rfl rfl rfl rfl)))))))) (fs_frz 7 (fs_one (fs_ret (e_tuple B (fa_cons (fd_var 7) fa_nil)))))))))))))), hg, F.kp, hb⟩
abbrev s_law_choice : Stmt := topS 29
theorem sc_law_choice : FnScope ["cell", "game", "draws", "k"] ["cell", "game"] (defScope s_law_choice) := ⟨rfl, rfl, rfl, by decide +kernel, rfl, by decide +kernel, by decide +kernel⟩
theorem ok_law_choice {a : Addr} {fd : FuncData} (F : Fun K "_law_choice" "_law_choice" s_law_choice a fd) (D_law_draws : FnD P w K mg base Tb "_law_draws" 1 m_law_draws) (hg : mg "_law_choice" = some (.ref a)) (hb : Binds K fd ["cell", "game"] []) (B : Bi mg) : FnD P w K mg base Tb "_law_choice" 2 m_law_choice := ⟨a, fd, ["cell", "game"], fn_okD F sc_law_choice fun cdv A outer s H E hr => 
  (fs_cons (fs_set (i := 2) sc_law_choice.nd rfl (.inr rfl) (e_call D_law_draws (fun σ => lets_of (takes_of rfl rfl rfl rfl) σ) hr (fa_cons (fd_var 0) (fa_cons (fd_add (e_len B (fa_cons (fd_var 1) fa_nil)) fd_int) fa_nil)))) (fs_one (fs_ret (e_tuple B (fa_cons (fd_lc rfl sc_law_choice.nd (fi_rng1 (by rfl) B.range (fa_cons (e_len B (fa_cons (fd_var 1) fa_nil)) fa_nil)) (own := [("k", 3)]) (blkOk_by (by rfl)) (fun _ _ _ _ _ => (fg_nm (i := 3) sc_law_choice.nd rfl (.inl rfl))) (fun _ _ _ _ _ => ft_yes) (fun _ _ _ _ _ => (e_ix (e_ix (e_ix (e_ix (fd_var 1) (fd_var 3)) fd_int) fd_int) (fd_mod (e_int B (fa_cons (e_ix (fd_var 2) (fd_var 3)) fa_nil)) (e_len B (fa_cons (e_ix (e_ix (e_ix (fd_var 1) (fd_var 3)) fd_int) fd_int) fa_nil)))))) fa_nil))))), hg, F.kp, hb⟩
abbrev s_price : Stmt := topS 3
theorem sc_price : FnScope ["things", "prices", "thing"] ["things", "prices"] (defScope s_price) := ⟨rfl, rfl, rfl, by decide +kernel, rfl, by decide +kernel, by decide +kernel⟩
theorem ok_price {a : Addr} {fd : FuncData} (F : Fun K "price" "price" s_price a fd) (hg : mg "price" = some (.ref a)) (hb : Binds K fd ["things", "prices"] []) (B : Bi mg) : FnD P w K mg base Tb "price" 1 m_price := ⟨a, fd, ["things", "prices"], fn_okD F sc_price fun cdv A outer s H E hr => 
  (fs_one (fs_ret (e_sum B (fa_cons (fd_lc rfl sc_price.nd (fi_seq (fd_var 0)) (own := [("thing", 2)]) (blkOk_by (by rfl)) (fun _ _ _ _ _ => (fg_nm (i := 2) sc_price.nd rfl (.inl rfl))) (fun _ _ _ _ _ => ft_yes) (fun _ _ _ _ _ => (e_ix (fd_var 1) (fd_var 2)))) fa_nil)))), hg, F.kp, hb⟩
abbrev s_count_loads : Stmt := topS 6
theorem sc_count_loads : FnScope ["size", "players", "choice", "counts", "player", "lot", "thing", "_"] ["size", "players", "choice"] (defScope s_count_loads) := ⟨rfl, rfl, rfl, by decide +kernel, rfl, by decide +kernel, by decide +kernel⟩
theorem ok_count_loads {a : Addr} {fd : FuncData} (F : Fun K "count_loads" "count_loads" s_count_loads a fd) (hg : mg "count_loads" = some (.ref a)) (hb : Binds K fd ["size", "players", "choice"] []) (B : Bi mg) : FnD P w K mg base Tb "count_loads" 1 m_count_loads := ⟨a, fd, ["size", "players", "choice"], fn_okD F sc_count_loads fun cdv A outer s H E hr => 
  (fs_cons (fs_ownLc (i := 3) rfl sc_count_loads.nd rfl rfl (by rfl) (fi_rng1 (by rfl) B.range (fa_cons (fd_var 0) fa_nil)) (own := [("_", 7)]) (blkOk_by (by rfl)) (fun _ _ _ _ _ => (fg_nm (i := 7) sc_count_loads.nd rfl (.inl rfl))) (fun _ _ _ _ _ => ft_yes) (fun _ _ _ _ _ => fd_int)) (fs_cons (fs_for (passes_of rfl) rfl (fi_zip (by rfl) B.zip (fa_cons (fd_var 1) (fa_cons (fd_var 2) fa_nil))) (fg_tup rfl (fgs_cons (fg_nm (i := 4) sc_count_loads.nd rfl (.inl rfl)) (fgs_cons (fg_nm (i := 5) sc_count_loads.nd rfl (.inl rfl)) fgs_nil))) (fs_one (fs_for (passes_of rfl) rfl (fi_seq (fd_var 5)) (fg_nm (i := 6) sc_count_loads.nd rfl (.inl rfl)) (fs_one (fs_augAt (i := 3) rfl (.inl rfl) (by decide) (by decide) (fd_var 6) (e_ix (fd_var 4) fd_int)))))) (fs_frz 3 (fs_one (fs_ret (e_tuple B (fa_cons (fd_var 3) fa_nil))))))), hg, F.kp, hb⟩
abbrev s_cost_at : Stmt := topS 1
theorem sc_cost_at : FnScope ["costs", "thing", "load"] ["costs", "thing", "load"] (defScope s_cost_at) := ⟨rfl, rfl, rfl, by decide +kernel, rfl, by decide +kernel, by decide +kernel⟩
theorem ok_cost_at {a : Addr} {fd : FuncData} (F : Fun K "cost_at" "cost_at" s_cost_at a fd) (hg : mg "cost_at" = some (.ref a)) (hb : Binds K fd ["costs", "thing", "load"] []) (B : Bi mg) : FnD P w K mg base Tb "cost_at" 1 m_cost_at := ⟨a, fd, ["costs", "thing", "load"], fn_okD F sc_cost_at fun cdv A outer s H E hr => 
  (fs_one (fs_ret (e_ix (e_ix (fd_var 0) (fd_var 1)) (fd_sub (fd_var 2) fd_int)))), hg, F.kp, hb⟩
abbrev s_prices_for : Stmt := topS 7
theorem sc_prices_for : FnScope ["players", "choice", "taker", "offer", "costs", "weight", "counts", "lot", "added", "thing", "more"] ["players", "choice", "taker"] (defScope s_prices_for) := ⟨rfl, rfl, rfl, by decide +kernel, rfl, by decide +kernel, by decide +kernel⟩
theorem ok_prices_for {a : Addr} {fd : FuncData} (F : Fun K "prices_for" "prices_for" s_prices_for a fd) (D_count_loads : FnD P w K mg base Tb "count_loads" 1 m_count_loads) (D_cost_at : FnD P w K mg base Tb "cost_at" 1 m_cost_at) (hg : mg "prices_for" = some (.ref a)) (hb : Binds K fd ["players", "choice", "taker"] []) (B : Bi mg) : FnD P w K mg base Tb "prices_for" 2 m_prices_for := ⟨a, fd, ["players", "choice", "taker"], fn_okD F sc_prices_for fun cdv A outer s H E hr => 
  (fs_cons (fs_asg (e_ix (fd_var 0) (fd_var 2)) (fg_tup rfl (fgs_cons (fg_nm (i := 3) sc_prices_for.nd rfl (.inl rfl)) (fgs_cons (fg_nm (i := 4) sc_prices_for.nd rfl (.inr rfl)) (fgs_cons (fg_nm (i := 5) sc_prices_for.nd rfl (.inr rfl)) fgs_nil))))) (fs_cons (fs_set (i := 6) sc_prices_for.nd rfl (.inr rfl) (e_call D_count_loads (fun σ => lets_of (takes_of rfl rfl rfl rfl) σ) hr (fa_cons (e_ix (fd_var 3) fd_int) (fa_cons (fd_var 0) (fa_cons (fd_var 1) fa_nil))))) (fs_cons (fs_set (i := 7) sc_prices_for.nd rfl (.inr rfl) (e_ix (fd_var 1) (fd_var 2))) (fs_cons (fs_setLc (i := 8) rfl sc_prices_for.nd rfl rfl (by rfl) (fi_rng1 (by rfl) B.range (fa_cons (e_ix (fd_var 3) fd_int) fa_nil)) (own := [("thing", 9)]) (blkOk_by (by rfl)) (fun _ _ _ _ _ => (fg_nm (i := 9) sc_prices_for.nd rfl (.inl rfl))) (fun _ _ _ _ _ => ft_yes) (fun _ _ _ _ _ => (fd_if (t_in hr (fd_var 9) (fd_var 7)) fd_int (fd_var 5)))) (fs_one (fs_ret (e_tuple B (fa_cons (fd_lc rfl sc_prices_for.nd (fi_enum (by rfl) B.enumerate (fa_cons (fd_var 8) fa_nil)) (own := [("thing", 9), ("more", 10)]) (blkOk_by (by rfl)) (fun _ _ _ _ _ => (fg_tup rfl (fgs_cons (fg_nm (i := 9) sc_prices_for.nd rfl (.inl rfl)) (fgs_cons (fg_nm (i := 10) sc_prices_for.nd rfl (.inl rfl)) fgs_nil)))) (fun _ _ _ _ _ => ft_yes) (fun _ _ _ _ _ => (e_call D_cost_at (fun σ => lets0 σ) hr (fa_cons (fd_var 4) (fa_cons (fd_var 9) (fa_cons (fd_add (e_ix (fd_var 6) (fd_var 9)) (fd_var 10)) fa_nil)))))) fa_nil)))))))), hg, F.kp, hb⟩
abbrev s_players : Stmt := topS 9
theorem sc_players : FnScope ["game", "offer", "costs"] ["game"] (defScope s_players) := ⟨rfl, rfl, rfl, by decide +kernel, rfl, by decide +kernel, by decide +kernel⟩
theorem ok_players {a : Addr} {fd : FuncData} (F : Fun K "_players" "_players" s_players a fd) (hg : mg "_players" = some (.ref a)) (hb : Binds K fd ["game"] []) (B : Bi mg) : FnD P w K mg base Tb "_players" 1 m_players := ⟨a, fd, ["game"], fn_okD F sc_players fun cdv A outer s H E hr => 
  (fs_one (fs_ret (fd_lc rfl sc_players.nd (fi_seq (fd_var 0)) (own := [("offer", 1), ("costs", 2)]) (blkOk_by (by rfl)) (fun _ _ _ _ _ => (fg_tup rfl (fgs_cons (fg_nm (i := 1) sc_players.nd rfl (.inl rfl)) (fgs_cons (fg_nm (i := 2) sc_players.nd rfl (.inl rfl)) fgs_nil)))) (fun _ _ _ _ _ => ft_yes) (fun _ _ _ _ _ => (fd_tup (fa_cons (fd_var 1) (fa_cons (fd_var 2) (fa_cons fd_int fa_nil)))))))), hg, F.kp, hb⟩
abbrev s_own_prices : Stmt := topS 11
theorem sc_own_prices : FnScope ["game", "choice", "taker"] ["game", "choice", "taker"] (defScope s_own_prices) := ⟨rfl, rfl, rfl, by decide +kernel, rfl, by decide +kernel, by decide +kernel⟩
theorem ok_own_prices {a : Addr} {fd : FuncData} (F : Fun K "own_prices" "own_prices" s_own_prices a fd) (D_prices_for : FnD P w K mg base Tb "prices_for" 2 m_prices_for) (D_players : FnD P w K mg base Tb "_players" 1 m_players) (hg : mg "own_prices" = some (.ref a)) (hb : Binds K fd ["game", "choice", "taker"] []) (B : Bi mg) : FnD P w K mg base Tb "own_prices" 3 m_own_prices := ⟨a, fd, ["game", "choice", "taker"], fn_okD F sc_own_prices fun cdv A outer s H E hr => 
  (fs_one (fs_ret (e_call D_prices_for (fun σ => lets_of (takes_of rfl rfl rfl rfl) σ) hr (fa_cons (e_call D_players (fun σ => lets_of (takes_of rfl rfl rfl rfl) σ) hr (fa_cons (fd_var 0) fa_nil)) (fa_cons (fd_var 1) (fa_cons (fd_var 2) fa_nil)))))), hg, F.kp, hb⟩
abbrev s_pay : Stmt := topS 10
theorem sc_pay : FnScope ["game", "choice", "taker"] ["game", "choice", "taker"] (defScope s_pay) := ⟨rfl, rfl, rfl, by decide +kernel, rfl, by decide +kernel, by decide +kernel⟩
theorem ok_pay {a : Addr} {fd : FuncData} (F : Fun K "pay" "pay" s_pay a fd) (D_price : FnD P w K mg base Tb "price" 1 m_price) (D_own_prices : FnD P w K mg base Tb "own_prices" 3 m_own_prices) (hg : mg "pay" = some (.ref a)) (hb : Binds K fd ["game", "choice", "taker"] []) (B : Bi mg) : FnD P w K mg base Tb "pay" 4 m_pay := ⟨a, fd, ["game", "choice", "taker"], fn_okD F sc_pay fun cdv A outer s H E hr => 
  (fs_one (fs_ret (e_call D_price (fun σ => lets_of (takes_of rfl rfl rfl rfl) σ) hr (fa_cons (e_ix (fd_var 1) (fd_var 2)) (fa_cons (e_call D_own_prices (fun σ => lets_of (takes_of rfl rfl rfl rfl) σ) hr (fa_cons (fd_var 0) (fa_cons (fd_var 1) (fa_cons (fd_var 2) fa_nil)))) fa_nil))))), hg, F.kp, hb⟩
abbrev s_total : Stmt := topS 14
theorem sc_total : FnScope ["game", "choice", "taker"] ["game", "choice"] (defScope s_total) := ⟨rfl, rfl, rfl, by decide +kernel, rfl, by decide +kernel, by decide +kernel⟩
theorem ok_total {a : Addr} {fd : FuncData} (F : Fun K "total" "total" s_total a fd) (D_pay : FnD P w K mg base Tb "pay" 4 m_pay) (hg : mg "total" = some (.ref a)) (hb : Binds K fd ["game", "choice"] []) (B : Bi mg) : FnD P w K mg base Tb "total" 5 m_total := ⟨a, fd, ["game", "choice"], fn_okD F sc_total fun cdv A outer s H E hr => 
  (fs_one (fs_ret (e_sum B (fa_cons (fd_lc rfl sc_total.nd (fi_rng1 (by rfl) B.range (fa_cons (e_len B (fa_cons (fd_var 0) fa_nil)) fa_nil)) (own := [("taker", 2)]) (blkOk_by (by rfl)) (fun _ _ _ _ _ => (fg_nm (i := 2) sc_total.nd rfl (.inl rfl))) (fun _ _ _ _ _ => ft_yes) (fun _ _ _ _ _ => (e_call D_pay (fun σ => lets0 σ) hr (fa_cons (fd_var 0) (fa_cons (fd_var 1) (fa_cons (fd_var 2) fa_nil)))))) fa_nil)))), hg, F.kp, hb⟩
abbrev s_all_choices : Stmt := topS 5
theorem sc_all_choices : FnScope ["players", "found", "player", "choice", "lot"] ["players"] (defScope s_all_choices) := ⟨rfl, rfl, rfl, by decide +kernel, rfl, by decide +kernel, by decide +kernel⟩
theorem ok_all_choices {a : Addr} {fd : FuncData} (F : Fun K "all_choices" "all_choices" s_all_choices a fd) (hg : mg "all_choices" = some (.ref a)) (hb : Binds K fd ["players"] []) (B : Bi mg) : FnD P w K mg base Tb "all_choices" 1 m_all_choices := ⟨a, fd, ["players"], fn_okD F sc_all_choices fun cdv A outer s H E hr => 
  (fs_cons (fs_set (i := 1) sc_all_choices.nd rfl (.inl rfl) (fd_lst (fa_cons (fd_tup fa_nil) fa_nil))) (fs_cons (fs_for (passes_of rfl) rfl (fi_seq (fd_var 0)) (fg_nm (i := 2) sc_all_choices.nd rfl (.inr rfl)) (fs_one (fs_setLc2 (i := 1) rfl sc_all_choices.nd rfl rfl (by rfl) (fi_seq (fd_var 1)) (own := [("choice", 3), ("lot", 4)]) (vs1 := [4]) (blkOk_by (by rfl)) (fun _ _ _ _ _ => (fg_nm (i := 3) sc_all_choices.nd rfl (.inl rfl))) (fun _ _ _ _ _ => ft_yes) (fun _ _ _ _ _ => (fi_seq (e_ix (e_ix (fd_var 2) fd_int) fd_int))) (fun _ _ _ _ _ => (fg_nm (i := 4) sc_all_choices.nd rfl (.inl rfl))) (fun _ _ _ _ _ => ft_yes) (fun _ _ _ _ _ => (fd_add (fd_var 3) (fd_tup (fa_cons (fd_var 4) fa_nil))))))) (fs_one (fs_ret (fd_var 1))))), hg, F.kp, hb⟩
abbrev s_choices : Stmt := topS 12
theorem sc_choices : FnScope ["game"] ["game"] (defScope s_choices) := ⟨rfl, rfl, rfl, by decide +kernel, rfl, by decide +kernel, by decide +kernel⟩
theorem ok_choices {a : Addr} {fd : FuncData} (F : Fun K "choices" "choices" s_choices a fd) (D_all_choices : FnD P w K mg base Tb "all_choices" 1 m_all_choices) (D_players : FnD P w K mg base Tb "_players" 1 m_players) (hg : mg "choices" = some (.ref a)) (hb : Binds K fd ["game"] []) (B : Bi mg) : FnD P w K mg base Tb "choices" 2 m_choices := ⟨a, fd, ["game"], fn_okD F sc_choices fun cdv A outer s H E hr => 
  (fs_one (fs_ret (e_tuple B (fa_cons (e_call D_all_choices (fun σ => lets_of (takes_of rfl rfl rfl rfl) σ) hr (fa_cons (e_call D_players (fun σ => lets_of (takes_of rfl rfl rfl rfl) σ) hr (fa_cons (fd_var 0) fa_nil)) fa_nil)) fa_nil)))), hg, F.kp, hb⟩
abbrev s_least_total : Stmt := topS 15
theorem sc_least_total : FnScope ["game", "choice"] ["game"] (defScope s_least_total) := ⟨rfl, rfl, rfl, by decide +kernel, rfl, by decide +kernel, by decide +kernel⟩
theorem ok_least_total {a : Addr} {fd : FuncData} (F : Fun K "least_total" "least_total" s_least_total a fd) (D_total : FnD P w K mg base Tb "total" 5 m_total) (D_choices : FnD P w K mg base Tb "choices" 2 m_choices) (hg : mg "least_total" = some (.ref a)) (hb : Binds K fd ["game"] []) (B : Bi mg) : FnD P w K mg base Tb "least_total" 6 m_least_total := ⟨a, fd, ["game"], fn_okD F sc_least_total fun cdv A outer s H E hr => 
  (fs_one (fs_ret (e_min B (fa_cons (fd_lc rfl sc_least_total.nd (fi_seq (e_call D_choices (fun σ => lets_of (takes_of rfl rfl rfl rfl) σ) hr (fa_cons (fd_var 0) fa_nil))) (own := [("choice", 1)]) (blkOk_by (by rfl)) (fun _ _ _ _ _ => (fg_nm (i := 1) sc_least_total.nd rfl (.inl rfl))) (fun _ _ _ _ _ => ft_yes) (fun _ _ _ _ _ => (e_call D_total (fun σ => lets0 σ) hr (fa_cons (fd_var 0) (fa_cons (fd_var 1) fa_nil))))) fa_nil)))), hg, F.kp, hb⟩
abbrev s_law_is_integer : Stmt := topS 19
theorem sc_law_is_integer : FnScope ["value"] ["value"] (defScope s_law_is_integer) := ⟨rfl, rfl, rfl, by decide +kernel, rfl, by decide +kernel, by decide +kernel⟩
theorem ok_law_is_integer {a : Addr} {fd : FuncData} (F : Fun K "_law_is_integer" "_law_is_integer" s_law_is_integer a fd) (hg : mg "_law_is_integer" = some (.ref a)) (hb : Binds K fd ["value"] []) (B : Bi mg) : FnD P w K mg base Tb "_law_is_integer" 1 m_law_is_integer := ⟨a, fd, ["value"], fn_okD F sc_law_is_integer fun cdv A outer s H E hr => 
  (fs_one (fs_ret (fd_and (e_isInt B (fd_var 0)) (fd_one (fd_not (e_isBool B (fd_var 0))))))), hg, F.kp, hb⟩
abbrev s_law_loads : Stmt := topS 31
theorem sc_law_loads : FnScope ["choice", "size", "thing", "lot"] ["choice", "size"] (defScope s_law_loads) := ⟨rfl, rfl, rfl, by decide +kernel, rfl, by decide +kernel, by decide +kernel⟩
theorem ok_law_loads {a : Addr} {fd : FuncData} (F : Fun K "_law_loads" "_law_loads" s_law_loads a fd) (hg : mg "_law_loads" = some (.ref a)) (hb : Binds K fd ["choice", "size"] []) (B : Bi mg) : FnD P w K mg base Tb "_law_loads" 1 m_law_loads := ⟨a, fd, ["choice", "size"], fn_okD F sc_law_loads fun cdv A outer s H E hr => 
  (fs_one (fs_ret (fd_lc rfl sc_law_loads.nd (fi_rng1 (by rfl) B.range (fa_cons (fd_var 1) fa_nil)) (own := [("thing", 2)]) (blkOk_by (by rfl)) (fun _ _ _ _ _ => (fg_nm (i := 2) sc_law_loads.nd rfl (.inr rfl))) (fun _ _ _ _ _ => ft_yes) (fun _ _ _ _ _ => (e_len B (fa_cons (fd_lc rfl sc_law_loads.nd (fi_seq (fd_var 0)) (own := [("lot", 3)]) (blkOk_by (by rfl)) (fun _ _ _ _ _ => (fg_nm (i := 3) sc_law_loads.nd rfl (.inl rfl))) (fun _ _ _ _ _ => (ft_one (t_in hr (fd_var 2) (fd_var 3)))) (fun _ _ _ _ _ => (fd_var 3))) fa_nil)))))), hg, F.kp, hb⟩
abbrev s_law_total : Stmt := topS 35
theorem sc_law_total : FnScope ["game", "choice", "numbers", "result", "taker", "thing"] ["game", "choice"] (defScope s_law_total) := ⟨rfl, rfl, rfl, by decide +kernel, rfl, by decide +kernel, by decide +kernel⟩
theorem ok_law_total {a : Addr} {fd : FuncData} (F : Fun K "_law_total" "_law_total" s_law_total a fd) (D_law_loads : FnD P w K mg base Tb "_law_loads" 1 m_law_loads) (hg : mg "_law_total" = some (.ref a)) (hb : Binds K fd ["game", "choice"] []) (B : Bi mg) : FnD P w K mg base Tb "_law_total" 2 m_law_total := ⟨a, fd, ["game", "choice"], fn_okD F sc_law_total fun cdv A outer s H E hr => 
  (fs_cons (fs_if (t_eq hr (e_len B (fa_cons (fd_var 0) fa_nil)) fd_int) (fs_one (fs_ret fd_int)) fs_nil) (fs_cons (fs_set (i := 2) sc_law_total.nd rfl (.inl rfl) (e_call D_law_loads (fun σ => lets_of (takes_of rfl rfl rfl rfl) σ) hr (fa_cons (fd_var 1) (fa_cons (e_ix (e_ix (e_ix (fd_var 0) fd_int) fd_int) fd_int) fa_nil)))) (fs_cons (fs_set (i := 3) sc_law_total.nd rfl (.inl rfl) fd_int) (fs_cons (fs_for (passes_of rfl) rfl (fi_rng1 (by rfl) B.range (fa_cons (e_len B (fa_cons (fd_var 0) fa_nil)) fa_nil)) (fg_nm (i := 4) sc_law_total.nd rfl (.inl rfl)) (fs_one (fs_for (passes_of rfl) rfl (fi_seq (e_ix (fd_var 1) (fd_var 4))) (fg_nm (i := 5) sc_law_total.nd rfl (.inl rfl)) (fs_one (fs_set (i := 3) sc_law_total.nd rfl (.inl rfl) (fd_add (fd_var 3) (e_ix (e_ix (e_ix (e_ix (fd_var 0) (fd_var 4)) fd_int) (fd_var 5)) (fd_sub (e_ix (fd_var 2) (fd_var 5)) fd_int)))))))) (fs_one (fs_ret (fd_var 3))))))), hg, F.kp, hb⟩
abbrev s_law_choices : Stmt := topS 30
theorem sc_law_choices : FnScope ["game", "rows", "taker", "longer", "row", "lot"] ["game"] (defScope s_law_choices) := ⟨rfl, rfl, rfl, by decide +kernel, rfl, by decide +kernel, by decide +kernel⟩
theorem ok_law_choices {a : Addr} {fd : FuncData} (F : Fun K "_law_choices" "_law_choices" s_law_choices a fd) (hg : mg "_law_choices" = some (.ref a)) (hb : Binds K fd ["game"] []) (B : Bi mg) : FnD P w K mg base Tb "_law_choices" 1 m_law_choices_k47 := ⟨a, fd, ["game"], fn_okD F sc_law_choices fun cdv A outer s H E hr => 
  (fs_cons (fs_set (i := 1) sc_law_choices.nd rfl (.inl rfl) (fd_lst (fa_cons (fd_tup fa_nil) fa_nil))) (fs_cons (fs_for (passes_of rfl) rfl (fi_seq (fd_var 0)) (fg_nm (i := 2) sc_law_choices.nd rfl (.inl rfl)) (fs_cons (fs_set (i := 3) sc_law_choices.nd rfl (.inl rfl) (fd_lst fa_nil)) (fs_cons (fs_for (passes_of rfl) rfl (fi_seq (fd_var 1)) (fg_nm (i := 4) sc_law_choices.nd rfl (.inr rfl)) (fs_one (fs_set (i := 3) sc_law_choices.nd rfl (.inl rfl) (fd_add (fd_var 3) (fd_lc rfl sc_law_choices.nd (fi_seq (e_ix (e_ix (fd_var 2) fd_int) fd_int)) (own := [("lot", 5)]) (blkOk_by (by rfl)) (fun _ _ _ _ _ => (fg_nm (i := 5) sc_law_choices.nd rfl (.inl rfl))) (fun _ _ _ _ _ => ft_yes) (fun _ _ _ _ _ => (fd_add (fd_var 4) (fd_tup (fa_cons (fd_var 5) fa_nil))))))))) (fs_one (fs_set (i := 1) sc_law_choices.nd rfl (.inl rfl) (fd_var 3)))))) (fs_one (fs_ret (fd_var 1))))), hg, F.kp, hb⟩
abbrev s_law : Stmt := topS 36
theorem sc_law : FnScope ["script", "game", "first", "second", "least", "choice", "told"] ["script"] (defScope s_law) := ⟨rfl, rfl, rfl, by decide +kernel, rfl, by decide +kernel, by decide +kernel⟩
theorem okF_law {a : Addr} {fd : FuncData} (F : Fun K "law" "law" s_law a fd) (D_law_game : FnD P w K mg base Tb "_law_game" 5 m_law_game_k47) (D_law_choice : FnD P w K mg base Tb "_law_choice" 2 m_law_choice) (D_least_total : FnD P w K mg base Tb "least_total" 6 m_least_total) (D_law_cell : FnD P w K mg base Tb "_law_cell" 1 m_law_cell) (D_total : FnD P w K mg base Tb "total" 5 m_total) (D_law_is_integer : FnD P w K mg base Tb "_law_is_integer" 1 m_law_is_integer) (D_law_total : FnD P w K mg base Tb "_law_total" 2 m_law_total) (D_law_choices : FnD P w K mg base Tb "_law_choices" 1 m_law_choices_k47) (B : Bi mg) : FnOk P w K mg base (L2.CX P w) 7 a fd ["script"] (spD K Tb m_law_k47) := fn_okD F sc_law fun cdv A outer s H E hr => 
  (fs_cons (fs_set (i := 1) sc_law.nd rfl (.inr rfl) (e_call D_law_game (fun σ => lets_of (takes_of rfl rfl rfl rfl) σ) hr (fa_cons (fd_var 0) fa_nil))) (fs_cons (fs_set (i := 2) sc_law.nd rfl (.inl rfl) (e_call D_law_choice (fun σ => lets_of (takes_of rfl rfl rfl rfl) σ) hr (fa_cons (e_call D_law_cell (fun σ => lets_of (takes_of rfl rfl rfl rfl) σ) hr (fa_cons (fd_var 0) (fa_cons fd_int fa_nil))) (fa_cons (fd_var 1) fa_nil)))) (fs_cons (fs_set (i := 3) sc_law.nd rfl (.inl rfl) (e_call D_law_choice (fun σ => lets_of (takes_of rfl rfl rfl rfl) σ) hr (fa_cons (e_call D_law_cell (fun σ => lets_of (takes_of rfl rfl rfl rfl) σ) hr (fa_cons (fd_var 0) (fa_cons fd_int fa_nil))) (fa_cons (fd_var 1) fa_nil)))) (fs_cons (fs_set (i := 4) sc_law.nd rfl (.inl rfl) (e_call D_least_total (fun σ => lets_of (takes_of rfl rfl rfl rfl) σ) hr (fa_cons (fd_var 1) fa_nil))) (fs_cons (fs_if (PW.pt (fw_or (ft_not (ft_val (e_call D_law_is_integer (fun σ => lets_of (takes_of rfl rfl rfl rfl) σ) hr (fa_cons (fd_var 4) fa_nil)))) (fw_or1 (t_ne hr (fd_var 4) (e_min B (fa_cons (fd_lc rfl sc_law.nd (fi_seq (e_call D_law_choices (fun σ => lets_of (takes_of rfl rfl rfl rfl) σ) hr (fa_cons (fd_var 1) fa_nil))) (own := [("choice", 5)]) (blkOk_by (by rfl)) (fun _ _ _ _ _ => (fg_nm (i := 5) sc_law.nd rfl (.inl rfl))) (fun _ _ _ _ _ => ft_yes) (fun _ _ _ _ _ => (e_call D_law_total (fun σ => lets0 σ) hr (fa_cons (fd_var 1) (fa_cons (fd_var 5) fa_nil))))) fa_nil)))))) (fs_one (fs_ret fd_bl)) fs_nil) (fs_cons (fs_for (passes_of rfl) rfl (fi_seq (fd_lst (fa_cons (fd_var 2) (fa_cons (fd_var 3) (fa_cons (fd_var 2) fa_nil))))) (fg_nm (i := 5) sc_law.nd rfl (.inl rfl)) (fs_cons (fs_set (i := 6) sc_law.nd rfl (.inl rfl) (e_call D_total (fun σ => lets_of (takes_of rfl rfl rfl rfl) σ) hr (fa_cons (fd_var 1) (fa_cons (fd_var 5) fa_nil)))) (fs_one (fs_if (PW.pt (fw_or (ft_not (ft_val (e_call D_law_is_integer (fun σ => lets_of (takes_of rfl rfl rfl rfl) σ) hr (fa_cons (fd_var 6) fa_nil)))) (fw_or (t_ne hr (fd_var 6) (e_call D_law_total (fun σ => lets_of (takes_of rfl rfl rfl rfl) σ) hr (fa_cons (fd_var 1) (fa_cons (fd_var 5) fa_nil)))) (fw_or1 (t_lt (fd_var 6) (fd_var 4)))))) (fs_one (fs_ret fd_bl)) fs_nil)))) (fs_one (fs_ret (e_eq hr (e_call D_least_total (fun σ => lets_of (takes_of rfl rfl rfl rfl) σ) hr (fa_cons (fd_var 1) fa_nil)) (fd_var 4))))))))))
end
end LW

set_option Elab.async false
set_option linter.all false
set_option maxRecDepth 100000
set_option maxHeartbeats 1000000
namespace PD
open PySem PySem.Spec PyProof.Rows L2

/-! ### typed data -/
def tu (l : List Int) : PyData := .tuple (l.map .int)
def li (l : List Int) : PyData := .list (l.map .int)
def lt (ls : List (List Int)) : PyData := .list (ls.map tu)
def tt (ls : List (List Int)) : PyData := .tuple (ls.map tu)
@[simp] theorem tu_eq (l : List Int) : PyData.tuple (l.map PyData.int) = tu l := rfl
@[simp] theorem li_eq (l : List Int) : PyData.list (l.map PyData.int) = li l := rfl
@[simp] theorem lt_eq (ls : List (List Int)) : PyData.list (ls.map tu) = lt ls := rfl
@[simp] theorem tt_eq (ls : List (List Int)) : PyData.tuple (ls.map tu) = tt ls := rfl
@[simp] theorem tu_eq' {α : Type} (l : List α) (f : α → Int) : PyData.tuple (l.map fun x => PyData.int (f x)) = tu (l.map f) := by unfold tu; rw [List.map_map]; rfl
@[simp] theorem li_eq' {α : Type} (l : List α) (f : α → Int) : PyData.list (l.map fun x => PyData.int (f x)) = li (l.map f) := by unfold li; rw [List.map_map]; rfl
@[simp] theorem lt_eq' {α : Type} (l : List α) (f : α → List Int) : PyData.list (l.map fun x => tu (f x)) = lt (l.map f) := by unfold lt; rw [List.map_map]; rfl
@[simp] theorem tt_eq' {α : Type} (l : List α) (f : α → List Int) : PyData.tuple (l.map fun x => tu (f x)) = tt (l.map f) := by unfold tt; rw [List.map_map]; rfl
theorem tu_inj : ∀ {a b : List Int}, tu a = tu b → a = b := fun {a b} h => by
  have h : a.map PyData.int = b.map PyData.int := PyData.tuple.inj h
  exact (List.map_inj_right (fun _ _ e => PyData.int.inj e)).mp h
@[simp] theorem items_tu (l : List Int) : items (tu l) = .ok (l.map .int) := rfl
@[simp] theorem items_li (l : List Int) : items (li l) = .ok (l.map .int) := rfl
@[simp] theorem items_lt (l : List (List Int)) : items (lt l) = .ok (l.map tu) := rfl
@[simp] theorem items_tt (l : List (List Int)) : items (tt l) = .ok (l.map tu) := rfl
@[simp] theorem items_list (l : List PyData) : items (.list l) = .ok l := rfl
@[simp] theorem items_tuple (l : List PyData) : items (.tuple l) = .ok l := rfl

/-! ### shape -/
def dep (n : Nat) (d : PyData) : Prop := d.canLay0 = true ∧ d.depth ≤ n
theorem dep_int (i : Int) : dep 0 (.int i) := ⟨rfl, Nat.le_refl _⟩
theorem dep_bool (i : Bool) : dep 0 (.bool i) := ⟨rfl, Nat.le_refl _⟩
theorem dep_all {n : Nat} : ∀ {xs : List PyData}, (∀ x ∈ xs, dep n x) → PyData.canLayAll0 xs = true ∧ PyData.depthAll xs ≤ n
  | [], _ => ⟨rfl, Nat.zero_le _⟩
  | x :: xs, h => by
    obtain ⟨h1, h2⟩ := h x List.mem_cons_self
    obtain ⟨h3, h4⟩ := dep_all (xs := xs) fun y hy => h y (List.mem_cons_of_mem _ hy)
    refine ⟨?_, Nat.max_le.mpr ⟨h2, h4⟩⟩
    show (x.canLay0 && PyData.canLayAll0 xs) = true
    rw [h1, h3]; rfl
theorem dep_tuple {n : Nat} {xs : List PyData} (h : ∀ x ∈ xs, dep n x) : dep (n + 1) (.tuple xs) := ⟨(dep_all h).1, Nat.succ_le_succ (dep_all h).2⟩
theorem dep_list {n : Nat} {xs : List PyData} (h : ∀ x ∈ xs, dep n x) : dep (n + 1) (.list xs) := ⟨(dep_all h).1, Nat.succ_le_succ (dep_all h).2⟩
theorem dep_tu (l : List Int) : dep 1 (tu l) := dep_tuple fun x hx => by obtain ⟨i, _, rfl⟩ := List.mem_map.mp hx; exact dep_int i
theorem dep_li (l : List Int) : dep 1 (li l) := dep_list fun x hx => by obtain ⟨i, _, rfl⟩ := List.mem_map.mp hx; exact dep_int i
theorem dep_lt (l : List (List Int)) : dep 2 (lt l) := dep_list fun x hx => by obtain ⟨i, _, rfl⟩ := List.mem_map.mp hx; exact dep_tu i
theorem dep_tt (l : List (List Int)) : dep 2 (tt l) := dep_tuple fun x hx => by obtain ⟨i, _, rfl⟩ := List.mem_map.mp hx; exact dep_tu i
theorem shp_of {n : Nat} {d : PyData} (h : dep n d) (hn : n ≤ 64 := by decide) : shp d = true := by
  show (d.canLay0 && decide (d.depth ≤ 64)) = true
  rw [h.1, decide_eq_true (Nat.le_trans h.2 hn)]; rfl
@[simp] theorem shp_int (i : Int) : shp (.int i) = true := shp_of (dep_int i)
@[simp] theorem shp_bool (i : Bool) : shp (.bool i) = true := shp_of (dep_bool i)
@[simp] theorem shp_tu (l : List Int) : shp (tu l) = true := shp_of (dep_tu l)
@[simp] theorem shp_li (l : List Int) : shp (li l) = true := shp_of (dep_li l)
@[simp] theorem shp_lt (l : List (List Int)) : shp (lt l) = true := shp_of (dep_lt l)
@[simp] theorem shp_tt (l : List (List Int)) : shp (tt l) = true := shp_of (dep_tt l)

/-! ### equality -/
@[simp] theorem eqv_int (i j : Int) : PyData.eqv (.int i) (.int j) = (i == j) := by rw [PyData.eqv]
@[simp] theorem eqv_bool (i j : Bool) : PyData.eqv (.bool i) (.bool j) = (i == j) := by rw [PyData.eqv]
theorem eqvAll_map {α : Type} [DecidableEq α] {f : α → PyData} (h : ∀ a b, PyData.eqv (f a) (f b) = decide (a = b)) : ∀ xs ys : List α, PyData.eqvAll (xs.map f) (ys.map f) = decide (xs = ys)
  | [], [] => by rw [List.map_nil, PyData.eqvAll]; rfl
  | [], y :: ys => by rw [List.map_nil, List.map_cons, PyData.eqvAll]; rfl
  | x :: xs, [] => by rw [List.map_nil, List.map_cons, PyData.eqvAll]; rfl
  | x :: xs, y :: ys => by
    rw [List.map_cons, List.map_cons, PyData.eqvAll, h, eqvAll_map h xs ys]
    by_cases h1 : x = y <;> by_cases h2 : xs = ys <;> simp [h1, h2]
@[simp] theorem eqv_tu (a b : List Int) : PyData.eqv (tu a) (tu b) = decide (a = b) := by
  unfold tu; rw [PyData.eqv]
  exact eqvAll_map (fun i j => by rw [eqv_int]; rfl) a b
@[simp] theorem eqv_li (a b : List Int) : PyData.eqv (li a) (li b) = decide (a = b) := by
  unfold li; rw [PyData.eqv]
  exact eqvAll_map (fun i j => by rw [eqv_int]; rfl) a b
@[simp] theorem eqv_tt (a b : List (List Int)) : PyData.eqv (tt a) (tt b) = decide (a = b) := by
  unfold tt; rw [PyData.eqv]
  exact eqvAll_map eqv_tu a b
@[simp] theorem eqv_lt (a b : List (List Int)) : PyData.eqv (lt a) (lt b) = decide (a = b) := by
  unfold lt; rw [PyData.eqv]
  exact eqvAll_map eqv_tu a b
@[simp] theorem inD_ints (x : Int) (l : List Int) : inD (.int x) (l.map .int) = decide (x ∈ l) := by
  unfold inD
  induction l with
  | nil => rfl
  | cons y r ih =>
    rw [List.map_cons, List.any_cons, ih, eqv_int]
    by_cases h : y = x
    · subst h; simp
    · have h' : ¬ x = y := fun e => h e.symm
      simp [h, h']
@[simp] theorem inD_tus (x : List Int) (l : List (List Int)) : inD (tu x) (l.map tu) = decide (x ∈ l) := by
  unfold inD
  induction l with
  | nil => rfl
  | cons y r ih =>
    rw [List.map_cons, List.any_cons, ih, eqv_tu]
    by_cases h : y = x
    · subst h; simp
    · have h' : ¬ x = y := fun e => h e.symm
      simp [h, h']

/-! ### operations -/
@[simp] theorem oEq_int (i j : Int) : oEq (.int i) (.int j) = .ok (.bool (i == j)) := by simp [oEq]
@[simp] theorem oNe_int (i j : Int) : oNe (.int i) (.int j) = .ok (.bool (!(i == j))) := by simp [oNe]
@[simp] theorem oEq_bool (i j : Bool) : oEq (.bool i) (.bool j) = .ok (.bool (i == j)) := by simp [oEq]
@[simp] theorem oNe_bool (i j : Bool) : oNe (.bool i) (.bool j) = .ok (.bool (!(i == j))) := by simp [oNe]
@[simp] theorem oEq_tu (a b : List Int) : oEq (tu a) (tu b) = .ok (.bool (decide (a = b))) := by simp [oEq]
@[simp] theorem oNe_tu (a b : List Int) : oNe (tu a) (tu b) = .ok (.bool (!decide (a = b))) := by simp [oNe]
@[simp] theorem oEq_tt (a b : List (List Int)) : oEq (tt a) (tt b) = .ok (.bool (decide (a = b))) := by simp [oEq]
@[simp] theorem oNe_tt (a b : List (List Int)) : oNe (tt a) (tt b) = .ok (.bool (!decide (a = b))) := by simp [oNe]
@[simp] theorem oIn_tu (i : Int) (l : List Int) : oIn (.int i) (tu l) = .ok (.bool (decide (i ∈ l))) := by simp [oIn]
@[simp] theorem oNotIn_tu (i : Int) (l : List Int) : oNotIn (.int i) (tu l) = .ok (.bool (!decide (i ∈ l))) := by simp [oNotIn]
@[simp] theorem oIn_li (i : Int) (l : List Int) : oIn (.int i) (li l) = .ok (.bool (decide (i ∈ l))) := by simp [oIn]
@[simp] theorem oNotIn_li (i : Int) (l : List Int) : oNotIn (.int i) (li l) = .ok (.bool (!decide (i ∈ l))) := by simp [oNotIn]
@[simp] theorem oIn_tt (i : List Int) (l : List (List Int)) : oIn (tu i) (tt l) = .ok (.bool (decide (i ∈ l))) := by simp [oIn]
@[simp] theorem oIn_lt (i : List Int) (l : List (List Int)) : oIn (tu i) (lt l) = .ok (.bool (decide (i ∈ l))) := by simp [oIn]
@[simp] theorem oNotIn_lt (i : List Int) (l : List (List Int)) : oNotIn (tu i) (lt l) = .ok (.bool (!decide (i ∈ l))) := by simp [oNotIn]
@[simp] theorem oAdd_int (i j : Int) : oAdd (.int i) (.int j) = .ok (.int (i + j)) := rfl
@[simp] theorem oSub_int (i j : Int) : oSub (.int i) (.int j) = .ok (.int (i - j)) := rfl
@[simp] theorem oLt_int (i j : Int) : oLt (.int i) (.int j) = .ok (.bool (decide (i < j))) := rfl
@[simp] theorem oLe_int (i j : Int) : oLe (.int i) (.int j) = .ok (.bool (decide (i ≤ j))) := rfl
@[simp] theorem oGt_int (i j : Int) : oGt (.int i) (.int j) = .ok (.bool (decide (j < i))) := rfl
@[simp] theorem oGe_int (i j : Int) : oGe (.int i) (.int j) = .ok (.bool (decide (j ≤ i))) := rfl
theorem oMul_int {i j : Int} (h : CMul i j) : oMul (.int i) (.int j) = .ok (.int (i * j)) := if_pos h
theorem oMul_c (i : Int) (n : Nat) (h : decide (n < 2 ^ 64) = true := by decide) : oMul (.int i) (.int n) = .ok (.int (i * n)) := oMul_int (.inr ⟨by omega, by have := of_decide_eq_true h; omega⟩)
theorem oMod_int {i j : Int} (h : j ≠ 0) : oMod (.int i) (.int j) = .ok (.int (i.fmod j)) := if_pos h
theorem oDiv_int {i j : Int} (h : CDivN i j) : oDiv (.int i) (.int j) = .ok (.int (i.fdiv j)) := if_pos h
theorem oAdd_tu {a b : List Int} (h : a.length + b.length ≤ 100000) : oAdd (tu a) (tu b) = .ok (tu (a ++ b)) := by
  have e : oAdd (.tuple (a.map PyData.int)) (.tuple (b.map PyData.int)) = .ok (.tuple (a.map PyData.int ++ b.map PyData.int)) := if_pos (by rw [List.length_map, List.length_map, sizeLine_eq]; omega)
  rw [← List.map_append] at e
  exact e
theorem oAdd_li {a b : List Int} (h : a.length + b.length ≤ 100000) : oAdd (li a) (li b) = .ok (li (a ++ b)) := by
  have e : oAdd (.list (a.map PyData.int)) (.list (b.map PyData.int)) = .ok (.list (a.map PyData.int ++ b.map PyData.int)) := if_pos (by rw [List.length_map, List.length_map, sizeLine_eq]; omega)
  rw [← List.map_append] at e
  exact e
theorem oAdd_lt {a b : List (List Int)} (h : a.length + b.length ≤ 100000) : oAdd (lt a) (lt b) = .ok (lt (a ++ b)) := by
  have e : oAdd (.list (a.map tu)) (.list (b.map tu)) = .ok (.list (a.map tu ++ b.map tu)) := if_pos (by rw [List.length_map, List.length_map, sizeLine_eq]; omega)
  rw [← List.map_append] at e
  exact e
theorem atI_get {α β : Type} (f : α → β) {xs : List α} {i : Int} (h0 : 0 ≤ i) {x : α} (h : xs[i.toNat]? = some x) : atI (xs.map f) i = some (f x) := by
  have hl := (List.getElem?_eq_some_iff.mp h).1
  unfold atI ixN
  rw [if_pos h0, if_pos (by rw [List.length_map]; omega)]
  show (xs.map f)[i.toNat]? = _
  rw [List.getElem?_map, h]; rfl
theorem oIx_li {l : List Int} {i x : Int} (h0 : 0 ≤ i) (h : l[i.toNat]? = some x) : oIx (li l) (.int i) = .ok (.int x) := by
  show (match atI (l.map PyData.int) i with | some d => R.ok d | none => .bad) = _
  rw [atI_get _ h0 h]
theorem oIx_tu {l : List Int} {i x : Int} (h0 : 0 ≤ i) (h : l[i.toNat]? = some x) : oIx (tu l) (.int i) = .ok (.int x) := by
  show (match atI (l.map PyData.int) i with | some d => R.ok d | none => .bad) = _
  rw [atI_get _ h0 h]
theorem oIx_lt {l : List (List Int)} {i : Int} {x : List Int} (h0 : 0 ≤ i) (h : l[i.toNat]? = some x) : oIx (lt l) (.int i) = .ok (tu x) := by
  show (match atI (l.map tu) i with | some d => R.ok d | none => .bad) = _
  rw [atI_get _ h0 h]
theorem oIx_tt {l : List (List Int)} {i : Int} {x : List Int} (h0 : 0 ≤ i) (h : l[i.toNat]? = some x) : oIx (tt l) (.int i) = .ok (tu x) := by
  show (match atI (l.map tu) i with | some d => R.ok d | none => .bad) = _
  rw [atI_get _ h0 h]
@[simp] theorem oIx_pair0 (a b : PyData) : oIx (.tuple [a, b]) (.int 0) = .ok a := rfl
@[simp] theorem oIx_pair1 (a b : PyData) : oIx (.tuple [a, b]) (.int 1) = .ok b := rfl
@[simp] theorem bLen_tu (l : List Int) : bLen [tu l] = .ok (.int l.length) := by simp [bLen]
@[simp] theorem bLen_li (l : List Int) : bLen [li l] = .ok (.int l.length) := by simp [bLen]
@[simp] theorem bLen_lt (l : List (List Int)) : bLen [lt l] = .ok (.int l.length) := by simp [bLen]
@[simp] theorem bLen_tt (l : List (List Int)) : bLen [tt l] = .ok (.int l.length) := by simp [bLen]
@[simp] theorem bInt_int (i : Int) : bInt [.int i] = .ok (.int i) := rfl
@[simp] theorem bTuple_li (l : List Int) : bTuple [li l] = .ok (tu l) := rfl
@[simp] theorem bTuple_tu (l : List Int) : bTuple [tu l] = .ok (tu l) := rfl
@[simp] theorem bTuple_lt (l : List (List Int)) : bTuple [lt l] = .ok (tt l) := rfl
@[simp] theorem bTuple_tt (l : List (List Int)) : bTuple [tt l] = .ok (tt l) := rfl
@[simp] theorem bList_li (l : List Int) : bList [li l] = .ok (li l) := rfl
@[simp] theorem bList_tu (l : List Int) : bList [tu l] = .ok (li l) := rfl
@[simp] theorem bList_lt (l : List (List Int)) : bList [lt l] = .ok (lt l) := rfl
@[simp] theorem bList_tt (l : List (List Int)) : bList [tt l] = .ok (lt l) := rfl
@[simp] theorem asInts_map : ∀ l : List Int, asInts (l.map .int) = some l
  | [] => rfl
  | x :: r => by rw [List.map_cons, asInts, asInts_map r]; rfl
@[simp] theorem asBools_map : ∀ l : List Bool, asBools (l.map .bool) = some l
  | [] => rfl
  | x :: r => by rw [List.map_cons, asBools, asBools_map r]; rfl
theorem asBools_map' {α : Type} (f : α → Bool) (l : List α) : asBools (l.map fun x => PyData.bool (f x)) = some (l.map f) := by
  have := asBools_map (l.map f)
  rw [List.map_map] at this
  exact this
@[simp] theorem bAny_map {α : Type} (f : α → Bool) (l : List α) : bAny [.list (l.map fun x => PyData.bool (f x))] = .ok (.bool (l.any f)) := by
  show ofO (asBools (l.map fun x => PyData.bool (f x))) (fun ns => R.ok (PyData.bool (ns.any id))) = _
  rw [asBools_map']
  show R.ok (PyData.bool ((l.map f).any id)) = _
  rw [List.any_map]; rfl
@[simp] theorem bAll_map {α : Type} (f : α → Bool) (l : List α) : bAll [.list (l.map fun x => PyData.bool (f x))] = .ok (.bool (l.all f)) := by
  show ofO (asBools (l.map fun x => PyData.bool (f x))) (fun ns => R.ok (PyData.bool (ns.all id))) = _
  rw [asBools_map']
  show R.ok (PyData.bool ((l.map f).all id)) = _
  rw [List.all_map]; rfl
theorem bMax_li {l : List Int} (h : l ≠ []) : bMax [li l] = .ok (.int (maxI l)) := by
  show ofO (asInts (l.map PyData.int)) (fun ns => if 0 < ns.length then R.ok (PyData.int (maxI ns)) else .bad) = _
  rw [asInts_map]
  exact if_pos (List.length_pos_iff.mpr h)
theorem bMin_li {l : List Int} (h : l ≠ []) : bMin [li l] = .ok (.int (minI l)) := by
  show ofO (asInts (l.map PyData.int)) (fun ns => if 0 < ns.length then R.ok (PyData.int (minI ns)) else .bad) = _
  rw [asInts_map]
  exact if_pos (List.length_pos_iff.mpr h)
@[simp] theorem bSum_li (l : List Int) : bSum [li l] = .ok (.int l.sum) := by
  show ofO (asInts (l.map PyData.int)) (fun ns => R.ok (PyData.int ns.sum)) = _
  rw [asInts_map]; rfl
theorem isi_int (i : Int) : oIsi "int" (.int i) = .ok (.bool true) := by
  have : isiD "int" (.int i) = some true := by show kitB "int" "int" = _; decide +kernel
  unfold oIsi; rw [this]
theorem isi_int_b (i : Bool) : oIsi "int" (.bool i) = .ok (.bool true) := by
  have : isiD "int" (.bool i) = some true := by show kitB "bool" "int" = _; decide +kernel
  unfold oIsi; rw [this]
theorem isi_bool (i : Int) : oIsi "bool" (.int i) = .ok (.bool false) := by
  have : isiD "bool" (.int i) = some false := by show kitB "int" "bool" = _; decide +kernel
  unfold oIsi; rw [this]
theorem isi_bool_b (i : Bool) : oIsi "bool" (.bool i) = .ok (.bool true) := by
  have : isiD "bool" (.bool i) = some true := by show kitB "bool" "bool" = _; decide +kernel
  unfold oIsi; rw [this]
theorem isi_tuple (l : List PyData) : oIsi "tuple" (.tuple l) = .ok (.bool true) := by
  have : isiD "tuple" (.tuple l) = some true := by show kitB "tuple" "tuple" = _; decide +kernel
  unfold oIsi; rw [this]
theorem isi_tu (l : List Int) : oIsi "tuple" (tu l) = .ok (.bool true) := isi_tuple _
theorem isi_tt (l : List (List Int)) : oIsi "tuple" (tt l) = .ok (.bool true) := isi_tuple _
end PD

set_option Elab.async false
set_option linter.all false
set_option maxRecDepth 100000
set_option maxHeartbeats 1000000
namespace PD
open PySem PySem.Spec PyProof.Rows L2

/-! ### evaluation -/
def varR : Option (Option Sl) → R PyData
  | some (some (.d x)) => .ok x
  | _ => .bad
@[simp] theorem varR_d (x : PyData) : varR (some (some (.d x))) = .ok x := rfl
@[simp] theorem ev_var (i : Nat) (ρ : Rho) : dVar i ρ = varR ρ[i]? := rfl
@[simp] theorem ev_c (x : PyData) (ρ : Rho) : dC x ρ = .ok x := rfl
@[simp] theorem ev_one (u : PyData → R PyData) (f : Dn) (ρ : Rho) : dOne u f ρ = (f ρ >>= u) := rfl
@[simp] theorem ev_two (u : PyData → PyData → R PyData) (f g : Dn) (ρ : Rho) : dTwo u f g ρ = (f ρ >>= fun a => g ρ >>= fun b => u a b) := rfl
@[simp] theorem ev_nil (ρ : Rho) : dNil ρ = .ok [] := rfl
@[simp] theorem ev_cons (f : Dn) (g : DnL) (ρ : Rho) : dCons f g ρ = (f ρ >>= fun a => g ρ >>= fun b => .ok (a :: b)) := rfl
@[simp] theorem ev_arg (m : List PyData → R PyData) (g : DnL) (ρ : Rho) : dArg m g ρ = (g ρ >>= m) := rfl
def tupR (xs : List PyData) : R PyData := if xs.length ≤ sizeLine then .ok (.tuple xs) else .bad
def lstR (xs : List PyData) : R PyData := if xs.length ≤ sizeLine then .ok (.list xs) else .bad
theorem tupR_ok {xs : List PyData} (h : xs.length ≤ 100000) : tupR xs = .ok (.tuple xs) := if_pos (by rw [sizeLine_eq]; omega)
theorem lstR_ok {xs : List PyData} (h : xs.length ≤ 100000) : lstR xs = .ok (.list xs) := if_pos (by rw [sizeLine_eq]; omega)
@[simp] theorem tupR_0 : tupR [] = .ok (.tuple []) := tupR_ok (by decide)
@[simp] theorem tupR_1 (a : PyData) : tupR [a] = .ok (.tuple [a]) := tupR_ok (by show 1 ≤ 100000; decide)
@[simp] theorem tupR_2 (a b : PyData) : tupR [a, b] = .ok (.tuple [a, b]) := tupR_ok (by show 2 ≤ 100000; decide)
@[simp] theorem tupR_3 (a b c : PyData) : tupR [a, b, c] = .ok (.tuple [a, b, c]) := tupR_ok (by show 3 ≤ 100000; decide)
@[simp] theorem tupR_4 (a b c d : PyData) : tupR [a, b, c, d] = .ok (.tuple [a, b, c, d]) := tupR_ok (by show 4 ≤ 100000; decide)
@[simp] theorem tupR_5 (a b c d e : PyData) : tupR [a, b, c, d, e] = .ok (.tuple [a, b, c, d, e]) := tupR_ok (by show 5 ≤ 100000; decide)
@[simp] theorem tupR_6 (a b c d e f : PyData) : tupR [a, b, c, d, e, f] = .ok (.tuple [a, b, c, d, e, f]) := tupR_ok (by show 6 ≤ 100000; decide)
@[simp] theorem tupR_7 (a b c d e f g : PyData) : tupR [a, b, c, d, e, f, g] = .ok (.tuple [a, b, c, d, e, f, g]) := tupR_ok (by show 7 ≤ 100000; decide)
@[simp] theorem tupR_8 (a b c d e f g h : PyData) : tupR [a, b, c, d, e, f, g, h] = .ok (.tuple [a, b, c, d, e, f, g, h]) := tupR_ok (by show 8 ≤ 100000; decide)
@[simp] theorem lstR_0 : lstR [] = .ok (.list []) := lstR_ok (by decide)
@[simp] theorem lstR_1 (a : PyData) : lstR [a] = .ok (.list [a]) := lstR_ok (by show 1 ≤ 100000; decide)
@[simp] theorem lstR_2 (a b : PyData) : lstR [a, b] = .ok (.list [a, b]) := lstR_ok (by show 2 ≤ 100000; decide)
@[simp] theorem lstR_3 (a b c : PyData) : lstR [a, b, c] = .ok (.list [a, b, c]) := lstR_ok (by show 3 ≤ 100000; decide)
@[simp] theorem ev_tup (g : DnL) (ρ : Rho) : dTup g ρ = (g ρ >>= tupR) := rfl
@[simp] theorem ev_lst (g : DnL) (ρ : Rho) : dLst g ρ = (g ρ >>= lstR) := rfl
@[simp] theorem tu_0 : PyData.tuple [] = tu [] := rfl
@[simp] theorem tu_1 (a : Int) : PyData.tuple [.int a] = tu [a] := rfl
@[simp] theorem tu_6 (a b c d e f : Int) : PyData.tuple [.int a, .int b, .int c, .int d, .int e, .int f] = tu [a, b, c, d, e, f] := rfl
@[simp] theorem tu_8 (a b c d e f g h : Int) : PyData.tuple [.int a, .int b, .int c, .int d, .int e, .int f, .int g, .int h] = tu [a, b, c, d, e, f, g, h] := rfl
@[simp] theorem li_3 (a b c : Int) : PyData.list [.int a, .int b, .int c] = li [a, b, c] := rfl
@[simp] theorem lt_1 (a : List Int) : PyData.list [tu a] = lt [a] := rfl
@[simp] theorem asB_bool (b : Bool) : asB (.bool b) = .ok b := rfl
@[simp] theorem asI_int (b : Int) : asI (.int b) = .ok b := rfl
@[simp] theorem ev_asB (f : Dn) (ρ : Rho) : dAsB f ρ = (f ρ >>= asB) := rfl
@[simp] theorem ev_and (f g : DnB) (ρ : Rho) : dAnd f g ρ = (f ρ >>= fun b => if b = true then g ρ else .ok false) := rfl
@[simp] theorem ev_or (f g : DnB) (ρ : Rho) : dOr f g ρ = (f ρ >>= fun b => if b = true then .ok true else g ρ) := rfl
@[simp] theorem ev_not (f : DnB) (ρ : Rho) : dNot f ρ = (f ρ >>= fun b => .ok (!b)) := rfl
@[simp] theorem ev_andV (f g : Dn) (ρ : Rho) : dAndV f g ρ = (f ρ >>= fun a => asB a >>= fun b => if b = true then g ρ else .ok (.bool false)) := rfl
@[simp] theorem ev_orV (f g : Dn) (ρ : Rho) : dOrV f g ρ = (f ρ >>= fun a => asB a >>= fun b => if b = true then .ok (.bool true) else g ρ) := rfl
@[simp] theorem ev_notV (f : Dn) (ρ : Rho) : dNotV f ρ = (f ρ >>= fun a => asB a >>= fun b => .ok (.bool (!b))) := rfl
@[simp] theorem ev_if (c : DnB) (f g : Dn) (ρ : Rho) : dIf c f g ρ = (c ρ >>= fun b => if b = true then f ρ else g ρ) := rfl
@[simp] theorem ev_cut (f : Dn) (l h : DnO) (ρ : Rho) : dCut f l h ρ = (f ρ >>= fun a => l ρ >>= fun l => h ρ >>= fun h => oCut a l h) := rfl
@[simp] theorem ev_noP (ρ : Rho) : dNoP ρ = .ok none := rfl
@[simp] theorem ev_part (f : Dn) (ρ : Rho) : dPart f ρ = (f ρ >>= fun a => asI a >>= fun i => .ok (some i)) := rfl
@[simp] theorem ev_yes (ρ : Rho) : dYes ρ = .ok true := rfl
@[simp] theorem ev_items (f : Dn) (ρ : Rho) : dItems f ρ = (f ρ >>= items) := rfl
@[simp] theorem ev_rng1 (g : DnL) (ρ : Rho) : dRng1 g ρ = (g ρ >>= rngA1) := rfl
@[simp] theorem ev_rng2 (g : DnL) (ρ : Rho) : dRng2 g ρ = (g ρ >>= rngA2) := rfl
@[simp] theorem ev_thawB (f : DnB) (ρ : Rho) : dThawB f ρ = nx (f (thaw ρ)) .ok := rfl
@[simp] theorem ev_thaw (f : Dn) (ρ : Rho) : dThaw f ρ = nx (f (thaw ρ)) fun d => if flat d = true then .ok d else .bad := rfl
def rangeI (lo hi : Int) : List Int := (List.range (hi - lo).toNat).map fun i => lo + (i : Nat)
theorem rngD_eq (lo : Int) (n : Nat) : rngD lo n = ((List.range n).map fun i => lo + (i : Nat)).map PyData.int := by unfold rngD; rw [List.map_map]; rfl
theorem rngA1_ok {n : Int} (h : n ≤ 100000) (h0 : -1000 ≤ n) : rngA1 [.int n] = .ok ((rangeI 0 n).map PyData.int) := by
  have e : rngA1 [.int n] = .ok (rngD 0 n.toNat) := if_pos ⟨by omega, by rw [sizeLine_eq]; omega⟩
  rw [e, rngD_eq]
  unfold rangeI
  rw [Int.sub_zero]
theorem mem_rangeI {lo hi x : Int} : x ∈ rangeI lo hi ↔ lo ≤ x ∧ x < hi := by
  unfold rangeI
  rw [List.mem_map]
  constructor
  · rintro ⟨i, hi', rfl⟩
    have := List.mem_range.mp hi'
    omega
  · intro ⟨h1, h2⟩
    exact ⟨(x - lo).toNat, List.mem_range.mpr (by omega), by omega⟩
theorem rangeI_len (lo hi : Int) : (rangeI lo hi).length = (hi - lo).toNat := by unfold rangeI; rw [List.length_map, List.length_range]
theorem rangeI_asc (lo hi : Int) : (rangeI lo hi).Pairwise (· < ·) := by
  unfold rangeI
  rw [List.pairwise_map]
  exact List.Pairwise.imp (fun h => by omega) List.pairwise_lt_range
theorem rangeI_get {lo hi : Int} {j : Nat} (h : j < (hi - lo).toNat) : (rangeI lo hi)[j]? = some (lo + (j : Nat)) := by
  unfold rangeI
  rw [List.getElem?_map, List.getElem?_range h]; rfl

/-! ### comprehensions -/
def lcR {α β : Type} (p : α → R Bool) (f : α → R β) : List α → R (List β)
  | [] => .ok []
  | x :: xs => nx (p x) fun b => if b = true then nx (f x) fun y => nx (lcR p f xs) fun ys => .ok (y :: ys) else lcR p f xs
theorem lcGo_nm (i : Nat) (ft : DnB) (fe : Dn) (ρ : Rho) : ∀ ds : List PyData, lcGo (.nm i) ft fe ρ ds = lcR (fun d => ft (ρ.set i (some (.d d)))) (fun d => fe (ρ.set i (some (.d d)))) ds
  | [] => rfl
  | d :: ds => by
    show nx _ _ = nx _ _
    simp only [lcGo_nm i ft fe ρ ds]
@[simp] theorem lcR_map {α β γ : Type} (p : α → R Bool) (f : α → R β) (g : γ → α) : ∀ xs : List γ, lcR p f (xs.map g) = lcR (fun x => p (g x)) (fun x => f (g x)) xs
  | [] => rfl
  | x :: xs => by
    show nx _ _ = nx _ _
    simp only [lcR_map p f g xs]
@[simp] theorem lcR_ok {α β : Type} (p : α → Bool) (f : α → β) : ∀ xs : List α, lcR (fun x => .ok (p x)) (fun x => .ok (f x)) xs = .ok ((xs.filter p).map f)
  | [] => rfl
  | x :: xs => by
    show (if p x = true then nx (lcR _ _ xs) _ else lcR _ _ xs) = _
    rw [lcR_ok p f xs]
    cases h : p x <;> simp [h]
@[simp high] theorem lcR_all {α β : Type} (f : α → β) (xs : List α) : lcR (fun _ => .ok true) (fun x => .ok (f x)) xs = .ok (xs.map f) := by
  rw [lcR_ok (fun _ => true) f xs, List.filter_eq_self.mpr (fun _ _ => rfl)]
theorem lcR_of {α β : Type} {p : α → R Bool} {f : α → R β} {q : α → Bool} {g : α → β} : ∀ {xs : List α}, (∀ x ∈ xs, p x = .ok (q x) ∧ (q x = true → f x = .ok (g x))) → lcR p f xs = .ok ((xs.filter q).map g)
  | [], _ => rfl
  | x :: xs, h => by
    obtain ⟨h1, h2⟩ := h x List.mem_cons_self
    show nx (p x) _ = _
    rw [h1, lcR_of (xs := xs) fun y hy => h y (List.mem_cons_of_mem _ hy)]
    cases e : q x with
    | false => simp [e]
    | true => rw [h2 e]; simp [e]
/-- every element evaluates to something with P -/
theorem lcR_some {α β : Type} {f : α → R PyData} {enc : β → PyData} {P : β → Prop} : ∀ {xs : List α}, (∀ x ∈ xs, ∃ y, f x = .ok (enc y) ∧ P y) → ∃ ys : List β, lcR (fun _ => .ok true) f xs = .ok (ys.map enc) ∧ ys.length = xs.length ∧ ∀ y ∈ ys, P y
  | [], _ => ⟨[], rfl, rfl, by simp⟩
  | x :: xs, h => by
    obtain ⟨y, h1, h2⟩ := h x List.mem_cons_self
    obtain ⟨ys, h3, h4, h5⟩ := lcR_some (xs := xs) fun y hy => h y (List.mem_cons_of_mem _ hy)
    refine ⟨y :: ys, ?_, by simp [h4], fun z hz => ?_⟩
    · show nx (f x) _ = _
      rw [h1, h3]; rfl
    · rcases List.mem_cons.mp hz with rfl | hz
      · exact h2
      · exact h5 z hz
@[simp] theorem ev_lc (fi : DnL) (i : Nat) (ft : DnB) (fe : Dn) (vs : List Nat) (ρ : Rho) : dLc fi (.nm i) ft fe vs ρ = (fi ρ >>= fun ds => nx (lcR (fun d => ft ((wipeR ρ vs).set i (some (.d d)))) (fun d => fe ((wipeR ρ vs).set i (some (.d d)))) ds) fun ys => .ok (.list ys)) := by
  show (fi ρ >>= fun ds => nx (lcGo (.nm i) ft fe (wipeR ρ vs) ds) fun ys => R.ok (PyData.list ys)) = _
  simp only [lcGo_nm]
@[simp] theorem wipe_0 (ρ : Rho) : wipeR ρ [] = ρ := rfl
@[simp] theorem wipe_1 (ρ : Rho) (v : Nat) (vs : List Nat) : wipeR ρ (v :: vs) = (wipeR ρ vs).set v none := rfl
def anyR {α : Type} (stop : Bool) (f : α → R PyData) : List α → R Bool
  | [] => .ok (!stop)
  | x :: xs => nx (f x) fun y => match y with
    | .bool c => if c = stop then .ok stop else anyR stop f xs
    | _ => .bad
theorem anyGo_nm (stop : Bool) (i : Nat) (fe : Dn) (ρ : Rho) : ∀ ds : List PyData, anyGo stop (.nm i) dYes fe ρ ds = anyR stop (fun d => fe (ρ.set i (some (.d d)))) ds
  | [] => rfl
  | d :: ds => by
    show nx (fe (ρ.set i (some (.d d)))) _ = nx (fe (ρ.set i (some (.d d)))) _
    cases fe (ρ.set i (some (.d d))) with
    | exc e => rfl
    | bad => rfl
    | ok y =>
      show (match y with | .bool c => if c = stop then R.ok stop else anyGo stop (.nm i) dYes fe ρ ds | _ => .bad) = _
      rw [anyGo_nm stop i fe ρ ds]
      cases y <;> rfl
theorem anyR_map {α γ : Type} (stop : Bool) (f : α → R PyData) (g : γ → α) : ∀ xs : List γ, anyR stop f (xs.map g) = anyR stop (fun x => f (g x)) xs
  | [] => rfl
  | x :: xs => by
    show nx _ _ = nx _ _
    simp only [anyR_map stop f g xs]
theorem anyR_of {α : Type} {f : α → R PyData} {q : α → Bool} : ∀ {xs : List α}, (∀ x ∈ xs, f x = .ok (.bool (q x))) → anyR true f xs = .ok (xs.any q)
  | [], _ => rfl
  | x :: xs, h => by
    show nx (f x) _ = _
    rw [h x List.mem_cons_self]
    show (if q x = true then R.ok true else anyR true f xs) = _
    rw [anyR_of (xs := xs) fun y hy => h y (List.mem_cons_of_mem _ hy), List.any_cons]
    cases q x <;> simp
theorem allR_of {α : Type} {f : α → R PyData} {q : α → Bool} : ∀ {xs : List α}, (∀ x ∈ xs, f x = .ok (.bool (q x))) → anyR false f xs = .ok (xs.all q)
  | [], _ => rfl
  | x :: xs, h => by
    show nx (f x) _ = _
    rw [h x List.mem_cons_self]
    show (if q x = false then R.ok false else anyR false f xs) = _
    rw [allR_of (xs := xs) fun y hy => h y (List.mem_cons_of_mem _ hy), List.all_cons]
    cases q x <;> simp
@[simp] theorem ev_anyG (stop : Bool) (fi : DnL) (i : Nat) (fe : Dn) (vs : List Nat) (ρ : Rho) : dAnyG stop fi (.nm i) dYes fe vs ρ = (fi ρ >>= fun ds => nx (anyR stop (fun d => fe ((wipeR ρ vs).set i (some (.d d)))) ds) fun b => .ok (.bool b)) := by
  show (fi ρ >>= fun ds => nx (anyGo stop (.nm i) dYes fe (wipeR ρ vs) ds) fun b => R.ok (PyData.bool b)) = _
  simp only [anyGo_nm]

@[simp] theorem ite_ok {α : Type} (c : Prop) [Decidable c] (a b : α) : (if c then R.ok a else R.ok b) = R.ok (if c then a else b) := by split <;> rfl
@[simp] theorem ite_int (c : Prop) [Decidable c] (a b : Int) : (if c then PyData.int a else PyData.int b) = PyData.int (if c then a else b) := by split <;> rfl
@[simp] theorem ite_bool (c : Prop) [Decidable c] (a b : Bool) : (if c then PyData.bool a else PyData.bool b) = PyData.bool (if c then a else b) := by split <;> rfl
@[simp] theorem ite_tu (c : Prop) [Decidable c] (a b : List Int) : (if c then tu a else tu b) = tu (if c then a else b) := by split <;> rfl

/-! ### statements -/
def seqO (o : Out) (h : Sn) : Out := match o with
  | .nx ρ' => h ρ'
  | o => o
@[simp] theorem seqO_nx (ρ : Rho) (h : Sn) : seqO (.nx ρ) h = h ρ := rfl
@[simp] theorem seqO_rt (d : PyData) (h : Sn) : seqO (.rt d) h = .rt d := rfl
@[simp] theorem seqO_ct (ρ : Rho) (h : Sn) : seqO (.ct ρ) h = .ct ρ := rfl
@[simp] theorem seqO_bk (ρ : Rho) (h : Sn) : seqO (.bk ρ) h = .bk ρ := rfl
@[simp] theorem ev_seq (g h : Sn) (ρ : Rho) : gSeq g h ρ = seqO (g ρ) h := rfl
@[simp] theorem ev_skip (ρ : Rho) : gSkip ρ = .nx ρ := rfl
@[simp] theorem oR_ok {α : Type} (a : α) (ρ : Rho) (k : α → Out) : oR (.ok a) ρ k = k a := rfl
@[simp] theorem oO_some (ρ : Rho) : oO (some ρ) = .nx ρ := rfl
@[simp] theorem set_nm (i : Nat) (d : PyData) (ρ : Rho) : Tg.set (.nm i) d ρ = some (ρ.set i (some (.d d))) := by rw [Tg.set]
@[simp] theorem set_tp2 (i j : Nat) (a b : PyData) (ρ : Rho) : Tg.set (.tp [.nm i, .nm j]) (.tuple [a, b]) ρ = some ((ρ.set i (some (.d a))).set j (some (.d b))) := by
  simp [Tg.set, Tg.sets]
@[simp] theorem ev_set (f : Dn) (t : Tg) (ρ : Rho) : gSet f t ρ = oR (f ρ) ρ fun d => oO (t.set d ρ) := rfl
@[simp] theorem ev_ret (f : Dn) (ρ : Rho) : gRet f ρ = oR (f ρ) ρ .rt := rfl
@[simp] theorem ev_expr (f : Dn) (ρ : Rho) : gExpr f ρ = oR (f ρ) ρ fun _ => .nx ρ := rfl
@[simp] theorem ev_ifs (c : DnB) (g h : Sn) (ρ : Rho) : gIf c g h ρ = oR (c ρ) ρ fun b => if b = true then g ρ else h ρ := rfl
@[simp] theorem ev_for (fi : DnL) (t : Tg) (g : Sn) (ρ : Rho) : gFor fi t g ρ = oR (fi ρ) ρ fun ds => forGo t g ds ρ := rfl
def frzO (o : Option Rho) (g : Sn) : Out := match o with
  | some ρ' => g ρ'
  | none => .bad
@[simp] theorem frzO_some (ρ : Rho) (g : Sn) : frzO (some ρ) g = g ρ := rfl
@[simp] theorem ev_frz (i : Nat) (g : Sn) (ρ : Rho) : gFrz i g ρ = frzO (frz i ρ) g := rfl
def frzS (o : Option (Option Sl)) (ρ : Rho) (i : Nat) : Option Rho := match o with
  | some (some (.own ds)) => some (ρ.set i (some (.d (.list ds))))
  | _ => none
@[simp] theorem frzS_own (ds : List PyData) (ρ : Rho) (i : Nat) : frzS (some (some (.own ds))) ρ i = some (ρ.set i (some (.d (.list ds)))) := rfl
@[simp] theorem ev_frzs (i : Nat) (ρ : Rho) : frz i ρ = frzS ρ[i]? ρ i := rfl
def ownR (d : PyData) (ρ : Rho) (i : Nat) : Out := match d with
  | .list ds => .nx (ρ.set i (some (.own ds)))
  | _ => .bad
@[simp] theorem ownR_list (ds : List PyData) (ρ : Rho) (i : Nat) : ownR (.list ds) ρ i = .nx (ρ.set i (some (.own ds))) := rfl
@[simp] theorem ownR_li (l : List Int) (ρ : Rho) (i : Nat) : ownR (li l) ρ i = .nx (ρ.set i (some (.own (l.map .int)))) := rfl
@[simp] theorem ownR_lt (l : List (List Int)) (ρ : Rho) (i : Nat) : ownR (lt l) ρ i = .nx (ρ.set i (some (.own (l.map tu)))) := rfl
@[simp] theorem ev_own (f : Dn) (i : Nat) (ρ : Rho) : gOwn f i ρ = oR (f ρ) ρ fun d => ownR d ρ i := rfl
def ownA (o : Option (Option Sl)) (k : List PyData → Out) : Out := match o with
  | some (some (.own ds)) => k ds
  | _ => .bad
@[simp] theorem ownA_own (ds : List PyData) (k : List PyData → Out) : ownA (some (some (.own ds))) k = k ds := rfl
@[simp] theorem ev_app (i : Nat) (f : Dn) (ρ : Rho) : gApp i f ρ = ownA ρ[i]? fun ds => oR (f ρ) ρ fun d => if ds.length < sizeLine then .nx (ρ.set i (some (.own (ds ++ [d])))) else .bad := rfl
def thaw1 : Option Sl → Option Sl
  | some (.own ds) => some (.d (.list ds))
  | some (.dct ks) => some (.d (.dict (ks.map fun k => (.tuple (k.map .int), .bool true))))
  | s => s
@[simp] theorem thaw1_dct (ks : List (List Int)) : thaw1 (some (.dct ks)) = some (.d (.dict (ks.map fun k => (.tuple (k.map .int), .bool true)))) := rfl
@[simp] theorem thaw1_own (ds : List PyData) : thaw1 (some (.own ds)) = some (.d (.list ds)) := rfl
@[simp] theorem thaw1_d (d : PyData) : thaw1 (some (.d d)) = some (.d d) := rfl
@[simp] theorem thaw1_none : thaw1 none = none := rfl
@[simp] theorem thaw_nil : thaw [] = [] := rfl
@[simp] theorem thaw_cons (s : Option Sl) (r : Rho) : thaw (s :: r) = thaw1 s :: thaw r := rfl
@[simp] theorem endR_rt (d : PyData) : endR (.rt d) = .ok d := rfl
theorem line_lt {n : Nat} (h : n < 100000) : n < sizeLine := by rw [sizeLine_eq]; omega

/-- a for loop: S holds of what is left to walk -/
theorem forGo_inv {α : Type} {enc : α → PyData} {i : Nat} {g : Sn} (S : List α → Rho → Prop) (hs : ∀ x xs ρ, S (x :: xs) ρ → ∃ ρ', g (ρ.set i (some (.d (enc x)))) = .nx ρ' ∧ S xs ρ') :
    ∀ (xs : List α) (ρ : Rho), S xs ρ → ∃ ρ', forGo (.nm i) g (xs.map enc) ρ = .nx ρ' ∧ S [] ρ'
  | [], ρ, h => ⟨ρ, rfl, h⟩
  | x :: xs, ρ, h => by
    obtain ⟨ρ1, e1, h1⟩ := hs x xs ρ h
    obtain ⟨ρ2, e2, h2⟩ := forGo_inv S hs xs ρ1 h1
    refine ⟨ρ2, ?_, h2⟩
    rw [List.map_cons]
    unfold forGo
    rw [set_nm]
    show (match g (ρ.set i (some (.d (enc x)))) with | .nx ρ => forGo (.nm i) g (xs.map enc) ρ | .ct ρ => forGo (.nm i) g (xs.map enc) ρ | .bk ρ => .nx ρ | o => o) = _
    rw [e1]
    exact e2

@[simp] theorem bAbs_int (i : Int) : bAbs [.int i] = .ok (.int (if i < 0 then -i else i)) := rfl
@[simp] theorem bMin2_int (i j : Int) : bMin2 [.int i, .int j] = .ok (.int (if j < i then j else i)) := rfl
@[simp] theorem bMax2_int (i j : Int) : bMax2 [.int i, .int j] = .ok (.int (if j > i then j else i)) := rfl
@[simp] theorem oPow_10_18 : oPow (.int 10) (.int 18) = .ok (.int 1000000000000000000) := by
  have h : CPow 10 18 := ⟨by decide, by decide, by decide⟩
  show (if CPow 10 18 then R.ok (PyData.int (10 ^ (18 : Int).toNat)) else .bad) = _
  rw [if_pos h]; rfl
theorem oMul_r {i j : Int} (h1 : -18446744073709551616 < j) (h2 : j < 18446744073709551616) : oMul (.int i) (.int j) = .ok (.int (i * j)) := oMul_int (.inr ⟨by omega, by omega⟩)
theorem oMul_l {i j : Int} (h1 : -18446744073709551616 < i) (h2 : i < 18446744073709551616) : oMul (.int i) (.int j) = .ok (.int (i * j)) := oMul_int (.inl ⟨by omega, by omega⟩)
theorem oDiv_lit {i j : Int} (h1 : j ≠ 0) (h2 : j.natAbs < 1073741824) : oDiv (.int i) (.int j) = .ok (.int (i.fdiv j)) := oDiv_int ⟨h1, h2⟩
theorem fmod_lo (a : Int) {b : Int} (h : 0 < b) : 0 ≤ a.fmod b := Int.fmod_nonneg_of_pos a h
theorem fmod_hi (a : Int) {b : Int} (h : 0 < b) : a.fmod b < b := Int.fmod_lt_of_pos a h

/-! ### sorting -/
def unInt : PyData → Int
  | .int i => i
  | _ => 0
def unTu : PyData → List Int
  | .tuple l => l.map unInt
  | _ => []
theorem unTu_tu (l : List Int) : unTu (tu l) = l := by
  show (l.map PyData.int).map unInt = l
  rw [List.map_map]
  exact List.map_id'' (fun _ => rfl) l
theorem alike_ints : ∀ a b : List Int, PySem.W.alikeAll (a.map PyData.int) (b.map PyData.int) = true
  | [], _ => by rw [List.map_nil, PySem.W.alikeAll]
  | _ :: _, [] => by rw [List.map_nil, List.map_cons, PySem.W.alikeAll]
  | x :: a, y :: b => by
    rw [List.map_cons, List.map_cons, PySem.W.alikeAll, alike_ints a b, PySem.W.alike]; rfl
theorem okSort_tus (ls : List (List Int)) : okSort (ls.map tu) = true := by
  unfold okSort
  have h1 : allAlike (ls.map tu) = true := by
    unfold allAlike
    rw [List.all_eq_true]
    intro d hd
    rw [List.all_eq_true]
    intro e he
    obtain ⟨a, _, rfl⟩ := List.mem_map.mp hd
    obtain ⟨b, _, rfl⟩ := List.mem_map.mp he
    show PySem.W.alike (.tuple _) (.tuple _) = true
    rw [PySem.W.alike]
    exact alike_ints a b
  have h2 : allTup (ls.map tu) = true := by
    unfold allTup
    rw [List.all_eq_true]
    intro d hd
    obtain ⟨a, _, rfl⟩ := List.mem_map.mp hd
    rfl
  have h3 : ((ls.map tu).all fun d => decide (d.depth ≤ 60)) = true := by
    rw [List.all_eq_true]
    intro d hd
    obtain ⟨a, _, rfl⟩ := List.mem_map.mp hd
    exact decide_eq_true (Nat.le_trans (dep_tu a).2 (by decide))
  rw [h1, h2, h3]; rfl
def sortT (ls : List (List Int)) : List (List Int) := (sortD (ls.map tu)).map unTu
theorem sortD_tus (ls : List (List Int)) : sortD (ls.map tu) = (sortT ls).map tu ∧ (sortT ls).Perm ls := by
  have p : (sortD (ls.map tu)).Perm (ls.map tu) := List.mergeSort_perm _ _
  have all : ∀ d ∈ sortD (ls.map tu), tu (unTu d) = d := fun d hd => by
    obtain ⟨a, _, rfl⟩ := List.mem_map.mp (p.subset hd)
    rw [unTu_tu]
  refine ⟨?_, ?_⟩
  · unfold sortT
    rw [List.map_map]
    have e : ∀ l : List PyData, (∀ d ∈ l, tu (unTu d) = d) → l.map (tu ∘ unTu) = l := fun l h => by
      induction l with
      | nil => rfl
      | cons d r ih => rw [List.map_cons, ih fun x hx => h x (List.mem_cons_of_mem _ hx)]; show tu (unTu d) :: r = _; rw [h d List.mem_cons_self]
    exact (e _ all).symm
  · have q := p.map unTu
    rw [List.map_map] at q
    have e : ls.map (unTu ∘ tu) = ls := List.map_id'' (fun l => unTu_tu l) ls
    rw [e] at q
    exact q
@[simp] theorem bSorted_lt (ls : List (List Int)) : bSorted [lt ls] = .ok (lt (sortT ls)) := by
  have e : bSorted [.list (ls.map tu)] = .ok (.list (sortD (ls.map tu))) := if_pos (okSort_tus ls)
  rw [(sortD_tus ls).1] at e
  exact e
theorem mem_sortT {ls : List (List Int)} {l : List Int} : l ∈ sortT ls ↔ l ∈ ls := (sortD_tus ls).2.mem_iff
theorem sortT_perm (ls : List (List Int)) : (sortT ls).Perm ls := (sortD_tus ls).2
end PD

set_option Elab.async false
set_option maxRecDepth 100000
set_option linter.all false
set_option maxHeartbeats 2000000
namespace LW
open PySem PySem.Spec PyProof.Rows L2 PD

/-! ### the law's own defs -/
theorem v_integer (x : Int) : m_law_is_integer [.int x] = .ok (.bool true) := by
  show endR (g_law_is_integer [some (.d (.int x))]) = _
  simp [g_law_is_integer, isi_int, isi_bool]
theorem v_within (a b : List Int) : m_law_within [tu a, tu b] = .ok (.bool (a.all fun x => decide (x ∈ b))) := by
  show endR (g_law_within [some (.d (tu a)), some (.d (tu b)), none]) = _
  simp [g_law_within]
theorem v_cell (ns : List Int) (k : Int) (h : 0 ≤ k) : ∃ c : Int, m_law_cell [li ns, .int k] = .ok (.int c) := by
  show ∃ c : Int, endR (g_law_cell [some (.d (li ns)), some (.d (.int k))]) = _
  by_cases hk : k < (ns.length : Int)
  · have hl : k.toNat < ns.length := by omega
    refine ⟨ns[k.toNat], ?_⟩
    simp [g_law_cell, hk, oIx_li h (List.getElem?_eq_getElem hl)]
  · refine ⟨5 * k + 3, ?_⟩
    simp [g_law_cell, hk, oMul_l]
theorem v_draws (c n : Int) (h0 : 0 ≤ n) (h1 : n ≤ 1000) : ∃ L : List Int, m_law_draws [.int c, .int n] = .ok (li L) ∧ L.length = n.toNat ∧ ∀ x ∈ L, 0 ≤ x ∧ x < 5040 := by
  show ∃ L : List Int, endR (g_law_draws [some (.d (.int c)), some (.d (.int n)), none, none, none, none, none, none]) = _ ∧ _
  have key := forGo_inv (i := 6) (g := b_law_draws_1) (enc := PyData.int) (fun xs ρ => ∃ (rest seed : Int) (dg : Bool) (L : List Int) (o6 o7 : Option Sl),
    ρ = [some (.d (.int c)), some (.d (.int n)), some (.d (.int rest)), some (.d (.bool dg)), some (.d (.int seed)), some (.own (L.map .int)), o6, o7] ∧ L.length + xs.length = n.toNat ∧ ∀ x ∈ L, 0 ≤ x ∧ x < 5040) (by
    rintro k xs ρ ⟨rest, seed, dg, L, o6, o7, rfl, hl, hL⟩
    have hl' : L.length + (xs.length + 1) = n.toNat := by simpa using hl
    have hs : L.length < sizeLine := line_lt (by omega)
    have app : ∀ y : Int, 0 ≤ y → y < 5040 → ∀ x ∈ L ++ [y], 0 ≤ x ∧ x < 5040 := fun y a b x hx => by
      rcases List.mem_append.mp hx with hx | hx
      · exact hL x hx
      · rw [List.mem_singleton.mp hx]; exact ⟨a, b⟩
    by_cases hb : dg = true ∧ 0 < rest
    · obtain ⟨rfl, hr⟩ := hb
      refine ⟨[some (.d (.int c)), some (.d (.int n)), some (.d (.int (rest.fdiv 5040))), some (.d (.bool true)), some (.d (.int seed)), some (.own ((L ++ [rest.fmod 5040]).map .int)), some (.d (.int k)), o7], ?_, rest.fdiv 5040, seed, true, L ++ [rest.fmod 5040], _, _, rfl, by simp; omega, app _ (fmod_lo _ (by decide)) (fmod_hi _ (by decide))⟩
      simp [b_law_draws_1, hr, oMod_int, oDiv_lit, hs]
    · have hc : (if dg = true then decide (0 < rest) else false) = false := by
        cases dg <;> simp_all
      have m1 := fmod_lo (seed * 48271 + (k + 1) * 69621 + 11) (b := 2147483647) (by decide)
      have m2 := fmod_hi (seed * 48271 + (k + 1) * 69621 + 11) (b := 2147483647) (by decide)
      generalize hm : (seed * 48271 + (k + 1) * 69621 + 11).fmod 2147483647 = mx at m1 m2
      refine ⟨[some (.d (.int c)), some (.d (.int n)), some (.d (.int rest)), some (.d (.bool dg)), some (.d (.int seed)), some (.own ((L ++ [(((mx * mx + 40692 * (k + 3)).fmod 2147483399).fdiv 64).fmod 5040]).map .int)), some (.d (.int k)), some (.d (.int ((mx * mx + 40692 * (k + 3)).fmod 2147483399)))], ?_,
        rest, seed, dg, L ++ [(((mx * mx + 40692 * (k + 3)).fmod 2147483399).fdiv 64).fmod 5040], _, _, rfl, by simp; omega, app _ (fmod_lo _ (by decide)) (fmod_hi _ (by decide))⟩
      have e1 : oMul (.int mx) (.int mx) = .ok (.int (mx * mx)) := oMul_l (by omega) (by omega)
      simp [b_law_draws_1, hc, oMod_int, oDiv_lit, hs, oMul_r, oMul_l, hm, e1]
      exact fun a b => absurd ⟨a, b⟩ hb)
  obtain ⟨ρ', e, rest, seed, dg, L, o6, o7, rfl, hl, hL⟩ := key (rangeI 0 n) [some (.d (.int c)), some (.d (.int n)), some (.d (.int (if c < 0 then -c else c))), some (.d (.bool (decide (1000000000000000000 ≤ (if c < 0 then -c else c))))), some (.d (.int (if c < 0 then -c else c))), some (.own []), none, none]
    ⟨_, _, _, [], none, none, rfl, by rw [rangeI_len]; simp, by simp⟩
  refine ⟨L, ?_, by simpa using hl, hL⟩
  simp [g_law_draws, rngA1_ok (show n ≤ 100000 by omega) (show -1000 ≤ n by omega), e]

/-! ### sets of things -/
def Asc (n : Int) (l : List Int) : Prop := l.Pairwise (· < ·) ∧ ∀ x ∈ l, 0 ≤ x ∧ x < n
theorem asc_len' : ∀ (l : List Int) (lo n : Int), l.Pairwise (· < ·) → (∀ x ∈ l, lo ≤ x ∧ x < n) → l.length ≤ (n - lo).toNat
  | [], _, _, _, _ => Nat.zero_le _
  | x :: xs, lo, n, h, b => by
    obtain ⟨h1, h2⟩ := List.pairwise_cons.mp h
    obtain ⟨b1, b2⟩ := b x List.mem_cons_self
    have ih := asc_len' xs (x + 1) n h2 fun y hy => ⟨by have := h1 y hy; omega, (b y (List.mem_cons_of_mem _ hy)).2⟩
    rw [List.length_cons]; omega
theorem Asc.len {n : Int} {l : List Int} (h : Asc n l) : l.length ≤ n.toNat := by
  have := asc_len' l 0 n h.1 h.2
  rwa [Int.sub_zero] at this
theorem Asc.nil (n : Int) : Asc n [] := ⟨.nil, by simp⟩
theorem asc_succ {k : Int} (hk : 0 ≤ k) {r : List Int} : Asc (k + 1) r ↔ Asc k r ∨ ∃ r', Asc k r' ∧ r' ++ [k] = r := by
  constructor
  · intro ⟨h1, h2⟩
    rcases List.eq_nil_or_concat r with rfl | ⟨r', z, rfl⟩
    · exact .inl (Asc.nil _)
    · rw [List.concat_eq_append] at h1 h2 ⊢
      obtain ⟨p1, _, p3⟩ := List.pairwise_append.mp h1
      have hz := h2 z (by simp)
      have hr : ∀ x ∈ r', x < z := fun x hx => p3 x hx z (by simp)
      by_cases e : z = k
      · subst e
        exact .inr ⟨r', ⟨p1, fun x hx => ⟨(h2 x (by simp [hx])).1, hr x hx⟩⟩, rfl⟩
      · refine .inl ⟨h1, fun x hx => ⟨(h2 x hx).1, ?_⟩⟩
        rcases List.mem_append.mp hx with hx | hx
        · have := hr x hx; omega
        · rw [List.mem_singleton.mp hx]; omega
  · rintro (⟨h1, h2⟩ | ⟨r', ⟨h1, h2⟩, rfl⟩)
    · exact ⟨h1, fun x hx => ⟨(h2 x hx).1, by have := (h2 x hx).2; omega⟩⟩
    · refine ⟨List.pairwise_append.mpr ⟨h1, List.pairwise_singleton _ _, fun a ha b hb => ?_⟩, fun x hx => ?_⟩
      · rw [List.mem_singleton.mp hb]; exact (h2 a ha).2
      · rcases List.mem_append.mp hx with hx | hx
        · have := h2 x hx; omega
        · rw [List.mem_singleton.mp hx]; omega
theorem rangeI_cons {k n : Int} (h : k < n) : rangeI k n = k :: rangeI (k + 1) n := by
  unfold rangeI
  have e : (n - k).toNat = (n - (k + 1)).toNat + 1 := by omega
  rw [e, List.range_succ_eq_map, List.map_cons, List.map_map]
  congr 1
  · simp
  · refine List.map_congr_left fun i _ => ?_
    show k + ((i + 1 : Nat) : Int) = k + 1 + (i : Int)
    omega
theorem rangeI_nil {k n : Int} (h : n ≤ k) : rangeI k n = [] := by
  unfold rangeI
  rw [show (n - k).toNat = 0 by omega]; rfl
theorem rangeI_inv {k n : Int} {x : Int} {xs : List Int} (h : x :: xs = rangeI k n) : k < n ∧ x = k ∧ xs = rangeI (k + 1) n := by
  by_cases hk : k < n
  · rw [rangeI_cons hk] at h
    exact ⟨hk, (List.cons.inj h).1, (List.cons.inj h).2⟩
  · rw [rangeI_nil (by omega)] at h; cases h
theorem lcR_mem {α β : Type} {f : α → R β} {g : α → β} {xs : List α} (h : ∀ x ∈ xs, f x = .ok (g x)) : lcR (fun _ => .ok true) f xs = .ok (xs.map g) := by
  have := lcR_of (p := fun _ => .ok true) (q := fun _ => true) (g := g) (xs := xs) fun x hx => ⟨rfl, fun _ => h x hx⟩
  rw [this, List.filter_eq_self.mpr (fun _ _ => rfl)]
theorem v_parts (n : Int) (h0 : 0 ≤ n) (h1 : n ≤ 12) : ∃ rows : List (List Int), m_law_parts_of [.int n] = .ok (lt rows) ∧ (∀ r, r ∈ rows ↔ Asc n r) ∧ rows.length ≤ 4096 := by
  show ∃ rows : List (List Int), endR (g_law_parts_of [some (.d (.int n)), none, none, none]) = _ ∧ _
  have key := forGo_inv (i := 2) (g := b_law_parts_of_1) (enc := PyData.int) (fun xs ρ => ∃ (k : Int) (rows : List (List Int)) (o2 : Option Sl),
    xs = rangeI k n ∧ 0 ≤ k ∧ k ≤ n ∧ ρ = [some (.d (.int n)), some (.d (lt rows)), o2, none] ∧ (∀ r, r ∈ rows ↔ Asc k r) ∧ rows.length = 2 ^ k.toNat) (by
    rintro x xs ρ ⟨k, rows, o2, hx, hk, hkn, rfl, hr, hz⟩
    obtain ⟨hk1, rfl, rfl⟩ := rangeI_inv hx
    have hp : 2 ^ x.toNat ≤ 2 ^ 12 := Nat.pow_le_pow_right (by decide) (by omega)
    have e1 : lcR (fun _ => R.ok true) (fun r : List Int => oAdd (tu r) (tu [x])) rows = .ok (rows.map fun r => tu (r ++ [x])) := lcR_mem fun r hm => oAdd_tu (by have := ((hr r).mp hm).len; simp; omega)
    have e2 : oAdd (lt rows) (lt (rows.map fun r => r ++ [x])) = .ok (lt (rows ++ rows.map fun r => r ++ [x])) := oAdd_lt (by rw [List.length_map, hz]; omega)
    refine ⟨[some (.d (.int n)), some (.d (lt (rows ++ rows.map fun r => r ++ [x]))), some (.d (.int x)), none], ?_, x + 1, _, _, rfl, by omega, by omega, rfl, fun r => ?_, ?_⟩
    · simp [b_law_parts_of_1, e1, e2]
    · rw [List.mem_append, List.mem_map, asc_succ hk, hr r]
      constructor
      · rintro (h | ⟨a, ha, rfl⟩)
        · exact .inl h
        · exact .inr ⟨a, (hr a).mp ha, rfl⟩
      · rintro (h | ⟨a, ha, rfl⟩)
        · exact .inl h
        · exact .inr ⟨a, (hr a).mpr ha, rfl⟩
    · rw [List.length_append, List.length_map, hz, show (x + 1).toNat = x.toNat + 1 by omega, Nat.pow_succ]; omega)
  have hi : ∀ r : List Int, r ∈ [[]] ↔ Asc 0 r := fun r => by
    constructor
    · intro h
      rw [List.mem_singleton.mp h]; exact Asc.nil _
    · intro h
      have := h.len
      have : r.length = 0 := by simpa using this
      rw [List.length_eq_zero_iff.mp this]; simp
  obtain ⟨ρ', e, k, rows, o2, hx, hk, hkn, rfl, hr, hz⟩ := key (rangeI 0 n) [some (.d (.int n)), some (.d (lt [[]])), none, none] ⟨0, [[]], none, rfl, by omega, h0, rfl, hi, rfl⟩
  · have ek : k = n := by
      by_cases h : k < n
      · rw [rangeI_cons h] at hx; cases hx
      · omega
    subst ek
    have hp : 2 ^ k.toNat ≤ 2 ^ 12 := Nat.pow_le_pow_right (by decide) (by omega)
    refine ⟨sortT rows, ?_, fun r => mem_sortT.trans (hr r), ?_⟩
    · simp [g_law_parts_of, rngA1_ok (show k ≤ 100000 by omega) (show -1000 ≤ k by omega), e]
    · rw [(sortT_perm rows).length_eq, hz]; omega
/-- x lies strictly within none of the rows -/
def Top (rows : List (List Int)) (x : List Int) : Prop := ∀ o ∈ rows, x ≠ o → ¬ ∀ y ∈ x, y ∈ o
theorem top_iff {rows : List (List Int)} {x : List Int} : Top rows x ↔ ∀ o ∈ rows, ¬ x = o → ∃ y, y ∈ x ∧ ¬ y ∈ o := by
  constructor
  · intro h o ho e
    refine Classical.byContradiction fun hc => h o ho e fun y hy => Classical.byContradiction fun hn => hc ⟨y, hy, hn⟩
  · intro h o ho e hall
    obtain ⟨y, h1, h2⟩ := h o ho e
    exact h2 (hall y h1)
theorem v_antichain (rows : List (List Int)) (hz : rows.length ≤ 5000) : ∃ ks : List (List Int), m_law_antichain [lt rows] = .ok (tt ks) ∧ (∀ x, x ∈ ks ↔ x ∈ rows ∧ Top rows x) := by
  show ∃ ks : List (List Int), endR (g_law_antichain [some (.d (lt rows)), none, none, none]) = _ ∧ _
  have key := forGo_inv (i := 2) (g := b_law_antichain_1) (enc := tu) (fun xs ρ => ∃ (kept : List (List Int)) (o2 : Option Sl),
    ρ = [some (.d (lt rows)), some (.own (kept.map tu)), o2, none] ∧ (∀ x ∈ xs, x ∈ rows) ∧ kept.length + xs.length ≤ rows.length ∧ (∀ x ∈ kept, x ∈ rows ∧ Top rows x) ∧ ∀ x ∈ rows, Top rows x → x ∈ kept ∨ x ∈ xs) (by
    rintro x xs ρ ⟨kept, o2, rfl, hx, hl, h1, h2⟩
    have hl' : kept.length + (xs.length + 1) ≤ rows.length := by simpa using hl
    have hs : kept.length < sizeLine := line_lt (by omega)
    by_cases hb : x ∉ kept ∧ Top rows x
    · refine ⟨[some (.d (lt rows)), some (.own ((kept ++ [x]).map tu)), some (.d (tu x)), none], ?_, kept ++ [x], _, rfl, fun y hy => hx y (List.mem_cons_of_mem _ hy), by simp; omega, fun y hy => ?_, fun y hy ht => ?_⟩
      · obtain ⟨hb1, hb2⟩ := hb
        simp [b_law_antichain_1, v_within, hb1, hs]
        exact top_iff.mp hb2
      · rcases List.mem_append.mp hy with hy | hy
        · exact h1 y hy
        · rw [List.mem_singleton.mp hy]; exact ⟨hx x List.mem_cons_self, hb.2⟩
      · rcases h2 y hy ht with h | h
        · exact .inl (List.mem_append_left _ h)
        · rcases List.mem_cons.mp h with rfl | h
          · exact .inl (by simp)
          · exact .inr h
    · refine ⟨[some (.d (lt rows)), some (.own (kept.map tu)), some (.d (tu x)), none], ?_, kept, _, rfl, fun y hy => hx y (List.mem_cons_of_mem _ hy), by omega, h1, fun y hy ht => ?_⟩
      · by_cases hm : x ∈ kept
        · simp [b_law_antichain_1, v_within, hm]
        · have hn : ¬ Top rows x := fun h => hb ⟨hm, h⟩
          simp [b_law_antichain_1, v_within, hm]
          exact fun h => absurd (top_iff.mpr h) hn
      · rcases h2 y hy ht with h | h
        · exact .inl h
        · rcases List.mem_cons.mp h with rfl | h
          · by_cases hm : y ∈ kept
            · exact .inl hm
            · exact absurd ⟨hm, ht⟩ hb
          · exact .inr h)
  obtain ⟨ρ', e, kept, o2, rfl, _, _, h1, h2⟩ := key (sortT rows) [some (.d (lt rows)), some (.own []), none, none] ⟨[], none, rfl, fun x hx => mem_sortT.mp hx, by rw [(sortT_perm rows).length_eq]; simp, by simp, fun x hx _ => .inr (mem_sortT.mpr hx)⟩
  refine ⟨kept, ?_, fun x => ⟨h1 x, fun ⟨a, b⟩ => (h2 x a b).elim (fun h => h) (fun h => by simp at h)⟩⟩
  simp [g_law_antichain, e]
end LW

set_option Elab.async false
set_option maxRecDepth 100000
set_option linter.all false
set_option maxHeartbeats 2000000
namespace LW
open PySem PySem.Spec PyProof.Rows L2 PD
def ixv (L : List Int) (i : Int) : Int := (L[i.toNat]?).getD 0
def ixr (L : List (List Int)) (i : Int) : List Int := (L[i.toNat]?).getD []
theorem ix_li {L : List Int} {i : Int} (h0 : 0 ≤ i) (h1 : i < (L.length : Int)) : oIx (li L) (.int i) = .ok (.int (ixv L i)) := by
  have hl : i.toNat < L.length := by omega
  unfold ixv
  rw [oIx_li h0 (List.getElem?_eq_getElem hl), List.getElem?_eq_getElem hl]; rfl
theorem ix_tu {L : List Int} {i : Int} (h0 : 0 ≤ i) (h1 : i < (L.length : Int)) : oIx (tu L) (.int i) = .ok (.int (ixv L i)) := by
  have hl : i.toNat < L.length := by omega
  unfold ixv
  rw [oIx_tu h0 (List.getElem?_eq_getElem hl), List.getElem?_eq_getElem hl]; rfl
theorem ix_lt {L : List (List Int)} {i : Int} (h0 : 0 ≤ i) (h1 : i < (L.length : Int)) : oIx (lt L) (.int i) = .ok (tu (ixr L i)) := by
  have hl : i.toNat < L.length := by omega
  unfold ixr
  rw [oIx_lt h0 (List.getElem?_eq_getElem hl), List.getElem?_eq_getElem hl]; rfl
theorem ixv_mem {L : List Int} {i : Int} (h0 : 0 ≤ i) (h1 : i < (L.length : Int)) : ixv L i ∈ L := by
  have hl : i.toNat < L.length := by omega
  unfold ixv
  rw [List.getElem?_eq_getElem hl]; exact List.getElem_mem hl
theorem ixr_mem {L : List (List Int)} {i : Int} (h0 : 0 ≤ i) (h1 : i < (L.length : Int)) : ixr L i ∈ L := by
  have hl : i.toNat < L.length := by omega
  unfold ixr
  rw [List.getElem?_eq_getElem hl]; exact List.getElem_mem hl
theorem v_any_lots (c n : Int) (h0 : 0 ≤ n) (h1 : n ≤ 12) : ∃ ks : List (List Int), m_law_any_lots [.int c, .int n] = .ok (tt ks) ∧ ∀ k ∈ ks, Asc n k := by
  show ∃ ks : List (List Int), endR (g_law_any_lots [some (.d (.int c)), some (.d (.int n)), none, none, none, none]) = _ ∧ _
  obtain ⟨L, e1, hL, bL⟩ := v_draws c 7 (by decide) (by decide)
  have hL7 : L.length = 7 := hL
  obtain ⟨rows, e2, hr, hz⟩ := v_parts n h0 h1
  have e3 := ix_li (L := L) (i := 0) (by decide) (by omega)
  generalize ixv L 0 = d0 at e3
  have b1 := fmod_lo d0 (b := 6) (by decide)
  have b2 := fmod_hi d0 (b := 6) (by decide)
  have hne : 0 < rows.length := List.length_pos_of_mem ((hr []).mpr (Asc.nil n))
  have e5 := rngA1_ok (n := 1 + d0.fmod 6) (by omega) (by omega)
  have f1 : ∀ a : Int, 0 ≤ a.fmod rows.length ∧ a.fmod rows.length < rows.length := fun a => ⟨fmod_lo a (by omega), fmod_hi a (by omega)⟩
  obtain ⟨ks, e6, h6⟩ := v_antichain ((rangeI 0 (1 + d0.fmod 6)).map fun k => ixr rows ((ixv L (1 + k)).fmod rows.length)) (by rw [List.length_map, rangeI_len]; omega)
  refine ⟨ks, ?_, fun k hk => ?_⟩
  · simp [g_law_any_lots, e1, e2, e3, oMod_int, e5]
    rw [lcR_mem (g := fun k => tu (ixr rows ((ixv L (1 + k)).fmod rows.length)))]
    · simp [e6]
    · intro k hk
      obtain ⟨k1, k2⟩ := mem_rangeI.mp hk
      have n0 : (rows.length : Int) ≠ 0 := by omega
      simp [ix_li (L := L) (i := 1 + k) (by omega) (by omega), oMod_int n0, ix_lt (f1 _).1 (f1 _).2]
  · obtain ⟨q, _⟩ := (h6 k).mp hk
    obtain ⟨j, hj, rfl⟩ := List.mem_map.mp q
    exact (hr _).mp (ixr_mem (f1 _).1 (f1 _).2)
theorem v_rest (row : List Int) (n : Int) (h0 : 0 ≤ n) (h1 : n ≤ 1000) : m_law_rest [tu row, .int n] = .ok (tu ((rangeI 0 n).filter fun x => !decide (x ∈ row))) := by
  show endR (g_law_rest [some (.d (tu row)), some (.d (.int n)), none]) = _
  simp [g_law_rest, rngA1_ok (show n ≤ 100000 by omega) (show -1000 ≤ n by omega)]
theorem v_count (row cl : List Int) (c : Int) (h : ∀ x ∈ row, 0 ≤ x ∧ x < (cl.length : Int)) : m_law_count [tu row, li cl, .int c] = .ok (.int (row.filter fun x => ixv cl x == c).length) := by
  show endR (g_law_count [some (.d (tu row)), some (.d (li cl)), some (.d (.int c)), none]) = _
  simp [g_law_count]
  rw [lcR_of (q := fun x => ixv cl x == c) (g := fun x => PyData.int x)]
  · simp
  · intro x hx
    simp [ix_li (h x hx).1 (h x hx).2]
theorem v_closed_up (l : List Int) (x : Int) : m_closed_up [tu l, .int x] = .ok (tu (l.map fun y => if x < y then y - 1 else y)) := by
  show endR (g_closed_up [some (.d (tu l)), some (.d (.int x)), none]) = _
  simp [g_closed_up]
theorem v_leave_out (l : List Int) (x : Int) : m_leave_out [tu l, .int x] = .ok (tu (l.filter (fun y => !(y == x)))) := by
  show endR (g_leave_out [some (.d (tu l)), some (.d (.int x)), none]) = _
  simp [g_leave_out]
def gone (x : Int) (l : List Int) : List Int := (l.filter (fun y => !(y == x))).map fun y => if x < y then y - 1 else y
theorem gone_asc {n x : Int} {l : List Int} (h : Asc n l) (hx : 0 ≤ x ∧ x < n) : Asc (n - 1) (gone x l) := by
  unfold gone
  constructor
  · rw [List.pairwise_map]
    refine List.Pairwise.imp_of_mem (R := fun a b => a < b) (fun {a b} ha hb hab => ?_) (h.1.filter _)
    have ha' := (List.mem_filter.mp ha).2
    have hb' := (List.mem_filter.mp hb).2
    have na : ¬ a = x := by simpa using ha'
    have nb : ¬ b = x := by simpa using hb'
    show (if x < a then a - 1 else a) < (if x < b then b - 1 else b)
    split <;> split <;> omega
  · intro z hz
    obtain ⟨y, hy, rfl⟩ := List.mem_map.mp hz
    obtain ⟨hy1, hy2⟩ := List.mem_filter.mp hy
    have ny : ¬ y = x := by simpa using hy2
    have := h.2 y hy1
    show 0 ≤ (if x < y then y - 1 else y) ∧ (if x < y then y - 1 else y) < n - 1
    split <;> omega
theorem v_without_thing (d : PyData) (ls : List (List Int)) (hd : items d = .ok (ls.map tu)) (x : Int) : m_without_thing [d, .int x] = .ok (tt (sortT (ls.map (gone x)))) := by
  show endR (g_without_thing [some (.d d), some (.d (.int x)), none]) = _
  simp [g_without_thing, hd, v_closed_up, v_leave_out, gone]
  rfl
def orAll (ls kept : List (List Int)) : List (List Int) := if kept.length = 0 then ls else kept
theorem v_without (n : Int) (ls : List (List Int)) (x : Int) : m_without [.tuple [.int n, tt ls], .int x] = .ok (.tuple [.int (n - 1), tt (sortT ((orAll ls (ls.filter fun l => !decide (x ∈ l))).map (gone x)))]) := by
  show endR (g_without [some (.d (.tuple [.int n, tt ls])), some (.d (.int x)), none, none, none, none]) = _
  by_cases h : (ls.filter fun l => !decide (x ∈ l)).length = 0
  · have e : orAll ls (ls.filter fun l => !decide (x ∈ l)) = ls := if_pos h
    rw [e]
    have w := v_without_thing (tt ls) ls (by simp) x
    have hk : ls.filter (fun l => !decide (x ∈ l)) = [] := List.length_eq_zero_iff.mp h
    have hk' : ∀ a ∈ ls, x ∈ a := by simpa using hk
    have hk2 : ¬ ∃ a, a ∈ ls ∧ ¬ x ∈ a := fun ⟨a, h1, h2⟩ => h2 (hk' a h1)
    simp [g_without, hk2, w]
  · have e : orAll ls (ls.filter fun l => !decide (x ∈ l)) = ls.filter fun l => !decide (x ∈ l) := if_neg h
    rw [e]
    have w := v_without_thing (lt (ls.filter fun l => !decide (x ∈ l))) _ (items_lt _) x
    have hk2 : ∃ a, a ∈ ls ∧ ¬ x ∈ a := by
      refine Classical.byContradiction fun hc => h ?_
      rw [List.length_eq_zero_iff, List.filter_eq_nil_iff]
      intro a ha
      simp
      exact Classical.byContradiction fun hn => hc ⟨a, ha, hn⟩
    simp [g_without, hk2, w]
theorem v_holding (n : Int) (ls : List (List Int)) (x : Int) : m_holding [.tuple [.int n, tt ls], .int x] = .ok (.tuple [.int (n - 1), tt (sortT ((orAll ls (ls.filter fun l => decide (x ∈ l))).map (gone x)))]) := by
  show endR (g_holding [some (.d (.tuple [.int n, tt ls])), some (.d (.int x)), none, none, none, none]) = _
  by_cases h : (ls.filter fun l => decide (x ∈ l)).length = 0
  · have e : orAll ls (ls.filter fun l => decide (x ∈ l)) = ls := if_pos h
    rw [e]
    have w := v_without_thing (tt ls) ls (by simp) x
    have hk : ls.filter (fun l => decide (x ∈ l)) = [] := List.length_eq_zero_iff.mp h
    have hk' : ∀ a ∈ ls, ¬ x ∈ a := by simpa using hk
    have hk2 : ¬ ∃ a, a ∈ ls ∧ x ∈ a := fun ⟨a, h1, h2⟩ => hk' a h1 h2
    simp [g_holding, hk2, w]
  · have e : orAll ls (ls.filter fun l => decide (x ∈ l)) = ls.filter fun l => decide (x ∈ l) := if_neg h
    rw [e]
    have w := v_without_thing (lt (ls.filter fun l => decide (x ∈ l))) _ (items_lt _) x
    have hk2 : ∃ a, a ∈ ls ∧ x ∈ a := by
      refine Classical.byContradiction fun hc => h ?_
      rw [List.length_eq_zero_iff, List.filter_eq_nil_iff]
      intro a ha
      simp
      exact fun hn => hc ⟨a, ha, hn⟩
    simp [g_holding, hk2, w]
end LW

set_option Elab.async false
set_option maxRecDepth 100000
set_option linter.all false
set_option maxHeartbeats 2000000
namespace LW
open PySem PySem.Spec PyProof.Rows L2 PD
theorem asc_ix {l : List Int} (h : l.Pairwise (· < ·)) {i j : Int} (h0 : 0 ≤ i) (h1 : i < j) (h2 : j < (l.length : Int)) : ixv l i < ixv l j := by
  have a : i.toNat < l.length := by omega
  have b : j.toNat < l.length := by omega
  unfold ixv
  rw [List.getElem?_eq_getElem a, List.getElem?_eq_getElem b]
  exact List.pairwise_iff_getElem.mp h i.toNat j.toNat a b (by omega)
theorem v_is_set (l : List Int) (n : Int) (h : Asc n l) (hl : l.length ≤ 1000) : m_law_is_set [tu l, .int n] = .ok (.bool true) := by
  show endR (g_law_is_set [some (.d (tu l)), some (.d (.int n)), none]) = _
  have key := forGo_inv (i := 2) (g := b_law_is_set_1) (enc := PyData.int) (fun xs ρ => ∃ o2, ρ = [some (.d (tu l)), some (.d (.int n)), o2] ∧ ∀ k ∈ xs, 0 ≤ k ∧ k < (l.length : Int)) (by
    rintro k xs ρ ⟨o2, rfl, hk⟩
    obtain ⟨k0, k1⟩ := hk k List.mem_cons_self
    refine ⟨[some (.d (tu l)), some (.d (.int n)), some (.d (.int k))], ?_, _, rfl, fun y hy => hk y (List.mem_cons_of_mem _ hy)⟩
    have e := ix_tu (L := l) k0 k1
    have m := h.2 _ (ixv_mem k0 k1)
    have a1 : ¬ ixv l k < 0 := by omega
    have a2 : ¬ n ≤ ixv l k := by omega
    by_cases hp : 0 < k
    · have e2 := ix_tu (L := l) (i := k - 1) (by omega) (by omega)
      have a3 := asc_ix h.1 (i := k - 1) (j := k) (by omega) (by omega) k1
      have a4 : ¬ ixv l k ≤ ixv l (k - 1) := by omega
      simp [b_law_is_set_1, e, v_integer, a1, a2, hp, e2, a4]
    · simp [b_law_is_set_1, e, v_integer, a1, a2, hp])
  obtain ⟨ρ', e, o2, rfl, _⟩ := key (rangeI 0 l.length) [some (.d (tu l)), some (.d (.int n)), none] ⟨none, rfl, fun k hk => mem_rangeI.mp hk⟩
  simp [g_law_is_set, isi_tu, rngA1_ok (n := (l.length : Int)) (by omega) (by omega), e]
theorem orAll_sub {ls kept : List (List Int)} (h : ∀ l ∈ kept, l ∈ ls) {l : List Int} (hl : l ∈ orAll ls kept) : l ∈ ls := by
  unfold orAll at hl
  split at hl
  · exact hl
  · exact h l hl
theorem asc_rest (n : Int) (p : Int → Bool) : Asc n ((rangeI 0 n).filter p) := ⟨(rangeI_asc 0 n).filter p, fun x hx => mem_rangeI.mp (List.mem_filter.mp hx).1⟩
theorem v_smooth_lots (c n : Int) (h0 : 0 ≤ n) (h1 : n ≤ 12) : ∃ ks : List (List Int), m_law_smooth_lots [.int c, .int n] = .ok (tt ks) ∧ ∀ k ∈ ks, Asc n k := by
  show ∃ ks : List (List Int), endR (g_law_smooth_lots [some (.d (.int c)), some (.d (.int n)), none, none, none, none, none, none, none, none, none]) = _ ∧ _
  obtain ⟨L, e1, hL, bL⟩ := v_draws c (3 + n) (by omega) (by omega)
  have hLn : (L.length : Int) = 3 + n := by rw [hL]; omega
  obtain ⟨rows, e2, hr, hz⟩ := v_parts n h0 h1
  have e30 := ix_li (L := L) (i := 0) (by decide) (by omega)
  have e31 := ix_li (L := L) (i := 1) (by decide) (by omega)
  have e32 := ix_li (L := L) (i := 2) (by decide) (by omega)
  generalize hcl : (rangeI 0 n).map (fun k => (ixv L (3 + k)).fmod 3) = cl
  have lcl : (cl.length : Int) = n := by rw [← hcl, List.length_map, rangeI_len]; omega
  generalize hb0 : 1 + (ixv L 1).fmod 2 = B0
  generalize hb1 : 1 + ((ixv L 1).fdiv 2).fmod 2 = B1
  generalize hb2 : ((ixv L 1).fdiv 4).fmod 3 = B2
  have er := rngA1_ok (n := n) (by omega) (by omega)
  have er3 := rngA1_ok (n := 3) (by decide) (by decide)
  let fit : List Int → Bool := fun row => (rangeI 0 3).all fun k => decide (((row.filter fun x => ixv cl x == k).length : Int) ≤ ixv [B0, B1, B2] k)
  have key := forGo_inv (i := 6) (g := b_law_smooth_lots_1) (enc := tu) (fun xs ρ => ∃ (kept : List (List Int)) (o6 : Option Sl), ρ = [some (.d (.int c)), some (.d (.int n)), some (.d (li L)), some (.d (li cl)), some (.d (li [B0, B1, B2])), some (.own (kept.map tu)), o6, none, none, none, none] ∧
      (∀ x ∈ xs, Asc n x) ∧ kept.length + xs.length ≤ 4096 ∧ (∀ x ∈ kept, Asc n x) ∧ ∀ r, Asc n r → fit r = true → r ∈ kept ∨ r ∈ xs) (by
    rintro x xs ρ ⟨kept, o6, rfl, hx, hl, hk, hf⟩
    have hl' : kept.length + (xs.length + 1) ≤ 4096 := by simpa using hl
    have hs : kept.length < sizeLine := line_lt (by omega)
    have hxa := hx x List.mem_cons_self
    have et : lcR (fun _ => R.ok true) (fun k : Int => m_law_count [tu x, li cl, .int k] >>= fun a => oIx (li [B0, B1, B2]) (.int k) >>= fun b => oLe a b) (rangeI 0 3) = .ok ((rangeI 0 3).map fun k => PyData.bool (decide (((x.filter fun y => ixv cl y == k).length : Int) ≤ ixv [B0, B1, B2] k))) := lcR_mem fun k hk => by
      obtain ⟨k1, k2⟩ := mem_rangeI.mp hk
      simp [v_count x cl k (fun y hy => by have := hxa.2 y hy; omega), ix_li (L := [B0, B1, B2]) (i := k) k1 (by simpa using k2)]
    by_cases hb : fit x = true
    · refine ⟨[some (.d (.int c)), some (.d (.int n)), some (.d (li L)), some (.d (li cl)), some (.d (li [B0, B1, B2])), some (.own ((kept ++ [x]).map tu)), some (.d (tu x)), none, none, none, none], ?_, kept ++ [x], _, rfl, fun y hy => hx y (List.mem_cons_of_mem _ hy), by simp; omega, fun y hy => ?_, fun r ha hr => ?_⟩
      · have hb' : ∀ k ∈ rangeI 0 3, ((x.filter fun y => ixv cl y == k).length : Int) ≤ ixv [B0, B1, B2] k := by simpa [fit] using hb
        simp [b_law_smooth_lots_1, er3, et, hs]
        exact hb'
      · rcases List.mem_append.mp hy with hy | hy
        · exact hk y hy
        · rw [List.mem_singleton.mp hy]; exact hxa
      · rcases hf r ha hr with h | h
        · exact .inl (List.mem_append_left _ h)
        · rcases List.mem_cons.mp h with rfl | h
          · exact .inl (by simp)
          · exact .inr h
    · refine ⟨[some (.d (.int c)), some (.d (.int n)), some (.d (li L)), some (.d (li cl)), some (.d (li [B0, B1, B2])), some (.own (kept.map tu)), some (.d (tu x)), none, none, none, none], ?_, kept, _, rfl, fun y hy => hx y (List.mem_cons_of_mem _ hy), by omega, hk, fun r ha hr => ?_⟩
      rotate_left
      · rcases hf r ha hr with h | h
        · exact .inl h
        · rcases List.mem_cons.mp h with rfl | h
          · exact absurd hr hb
          · exact .inr h
      have hb' : ¬ ∀ k ∈ rangeI 0 3, ((x.filter fun y => ixv cl y == k).length : Int) ≤ ixv [B0, B1, B2] k := fun h => hb (by simpa [fit] using h)
      simp [b_law_smooth_lots_1, er3, et, hs]
      refine Classical.byContradiction fun hc => hb' fun k hk2 => ?_
      exact Classical.byContradiction fun hn => hc ⟨k, hk2, by omega⟩)
  obtain ⟨ρ', e, kept, o6, rfl, _, hl, hk, hf⟩ := key rows [some (.d (.int c)), some (.d (.int n)), some (.d (li L)), some (.d (li cl)), some (.d (li [B0, B1, B2])), some (.own []), none, none, none, none, none]
    ⟨[], none, rfl, fun x hx => (hr x).mp hx, by simpa using hz, by simp, fun r ha _ => .inr ((hr r).mpr ha)⟩
  have hB0 : 0 ≤ B0 := by have := fmod_lo (ixv L 1) (b := 2) (by decide); omega
  have hB1 : 0 ≤ B1 := by have := fmod_lo ((ixv L 1).fdiv 2) (b := 2) (by decide); omega
  have hB2 : 0 ≤ B2 := by have := fmod_lo ((ixv L 1).fdiv 4) (b := 3) (by decide); omega
  have fit0 : fit [] = true := by
    show ((rangeI 0 3).all fun k => decide (((([] : List Int).filter fun x => ixv cl x == k).length : Int) ≤ ixv [B0, B1, B2] k)) = true
    rw [List.all_eq_true]
    intro k hk2
    obtain ⟨k1, k2⟩ := mem_rangeI.mp hk2
    have this : ixv [B0, B1, B2] k ∈ [B0, B1, B2] := ixv_mem k1 (by simpa using k2)
    simp only [List.mem_cons, List.not_mem_nil, or_false] at this
    refine decide_eq_true ?_
    show (0 : Int) ≤ _
    rcases this with h | h | h <;> omega
  have hne : kept ≠ [] := fun z => by
    rcases hf [] (Asc.nil n) fit0 with h | h
    · rw [z] at h; cases h
    · cases h
  have hmx := bMax_li (l := kept.map fun r => (r.length : Int)) (by simpa using hne)
  generalize hM : maxI (kept.map fun r => (r.length : Int)) = M at hmx
  have f8a := fmod_lo (ixv L 0) (b := 8) (by decide)
  have f8b := fmod_hi (ixv L 0) (b := 8) (by decide)
  have e8 := ix_tu (L := [2, 1, 2, 3, 2, 1, 3, 0]) (i := (ixv L 0).fmod 8) f8a (by simpa using f8b)
  generalize ixv [2, 1, 2, 3, 2, 1, 3, 0] ((ixv L 0).fmod 8) = T at e8
  generalize hC : (if T < M then T else M) = C
  have hrest : ∀ ls : List (List Int), lcR (fun _ => R.ok true) (fun l => m_law_rest [tu l, .int n]) ls = .ok (ls.map fun l => tu ((rangeI 0 n).filter fun x => !decide (x ∈ l))) := fun ls => lcR_mem fun l _ => v_rest l n h0 (by omega)
  by_cases h3 : (ixv L 2).fmod 3 = 1
  · refine ⟨sortT ((kept.filter fun r => (r.length : Int) == C).map fun l => (rangeI 0 n).filter fun x => !decide (x ∈ l)), ?_, fun k hk2 => ?_⟩
    · simp [g_law_smooth_lots, e1, er]
      rw [lcR_mem (g := fun k => PyData.int ((ixv L (3 + k)).fmod 3))]
      · simp [e2, e30, e31, e32, hcl, oMod_int, oDiv_lit, hb0, hb1, hb2, e, hmx, e8, hC, h3, hrest]
      · intro k hk3
        obtain ⟨k1, k2⟩ := mem_rangeI.mp hk3
        simp [ix_li (L := L) (i := 3 + k) (by omega) (by omega), oMod_int]
    · obtain ⟨l, _, rfl⟩ := List.mem_map.mp (mem_sortT.mp hk2)
      exact asc_rest n _
  · refine ⟨kept.filter fun r => (r.length : Int) == C, ?_, fun k hk2 => hk k (List.mem_filter.mp hk2).1⟩
    simp [g_law_smooth_lots, e1, er]
    rw [lcR_mem (g := fun k => PyData.int ((ixv L (3 + k)).fmod 3))]
    · simp [e2, e30, e31, e32, hcl, oMod_int, oDiv_lit, hb0, hb1, hb2, e, hmx, e8, hC, h3, hrest]
    · intro k hk3
      obtain ⟨k1, k2⟩ := mem_rangeI.mp hk3
      simp [ix_li (L := L) (i := 3 + k) (by omega) (by omega), oMod_int]
theorem v_lots (c n : Int) (h0 : 0 ≤ n) (h1 : n ≤ 12) : ∃ ks : List (List Int), m_law_lots [.int c, .int n] = .ok (tt ks) ∧ ∀ k ∈ ks, Asc n k := by
  show ∃ ks : List (List Int), endR (g_law_lots [some (.d (.int c)), some (.d (.int n))]) = _ ∧ _
  obtain ⟨L, e1, hL, bL⟩ := v_draws c 3 (by decide) (by decide)
  have hL3 : L.length = 3 := hL
  have e32 := ix_li (L := L) (i := 2) (by decide) (by omega)
  by_cases h : ((ixv L 2).fdiv 3).fmod 2 = 0
  · obtain ⟨ks, e, hk⟩ := v_smooth_lots c n h0 h1
    refine ⟨ks, ?_, hk⟩
    simp [g_law_lots, e1, e32, oDiv_lit, oMod_int, h, e]
  · obtain ⟨ks, e, hk⟩ := v_any_lots c n h0 h1
    refine ⟨ks, ?_, hk⟩
    simp [g_law_lots, e1, e32, oDiv_lit, oMod_int, h, e]
end LW

set_option Elab.async false
set_option linter.all false
set_option maxRecDepth 100000
set_option maxHeartbeats 1000000
namespace PD
open PySem PySem.Spec PyProof.Rows L2
def popO (d : PyData) (ds : List PyData) (ρ : Rho) (i : Nat) : Out := match d with
  | .int k => match seqIndex? k ds.length with
    | some j => if -(2 ^ 63) ≤ k ∧ k < 2 ^ 63 ∧ j < ds.length then .nx (ρ.set i (some (.own (ds.eraseIdx j)))) else .bad
    | none => .bad
  | _ => .bad
@[simp] theorem ev_popAt (i : Nat) (f : Dn) (ρ : Rho) : gPopAt i f ρ = ownA ρ[i]? fun ds => oR (f ρ) ρ fun d => popO d ds ρ i := rfl
theorem eraseIdx_map' {α β : Type} (f : α → β) : ∀ (l : List α) (k : Nat), (l.map f).eraseIdx k = (l.eraseIdx k).map f
  | [], k => by cases k <;> rfl
  | a :: l, 0 => rfl
  | a :: l, k + 1 => by
    show f a :: (l.map f).eraseIdx k = f a :: (l.eraseIdx k).map f
    rw [eraseIdx_map' f l k]
theorem popO_map {α : Type} (f : α → PyData) {l : List α} {k : Int} (ρ : Rho) (i : Nat) (h0 : 0 ≤ k) (h1 : k < (l.length : Int)) (hz : l.length ≤ 100000) : popO (.int k) (l.map f) ρ i = .nx (ρ.set i (some (.own ((l.eraseIdx k.toNat).map f)))) := by
  have e : ixN (l.map f).length k = some k.toNat := by
    unfold ixN
    rw [if_pos h0, if_pos (by rw [List.length_map]; exact h1)]
  obtain ⟨e1, e2, _⟩ := ixN_seq e
  show (match seqIndex? k (l.map f).length with | some j => if -(2 ^ 63) ≤ k ∧ k < 2 ^ 63 ∧ j < (l.map f).length then Out.nx (ρ.set i (some (.own ((l.map f).eraseIdx j)))) else .bad | none => .bad) = _
  rw [e1]
  show (if -(2 ^ 63) ≤ k ∧ k < 2 ^ 63 ∧ k.toNat < (l.map f).length then Out.nx (ρ.set i (some (.own ((l.map f).eraseIdx k.toNat)))) else .bad) = _
  rw [if_pos ⟨by omega, by omega, e2⟩, eraseIdx_map']
@[simp] theorem flat_int (i : Int) : flat (.int i) = true := rfl
@[simp] theorem flat_bool (i : Bool) : flat (.bool i) = true := rfl
@[simp] theorem nx_bad {α β : Type} (k : α → R β) : nx .bad k = .bad := rfl
@[simp] theorem bLstR1_ok {n : Int} (h : rgOk 0 n = true) : bLstR1 (.int n) = .ok (li (rangeI 0 n)) := by
  have e : bLstR1 (.int n) = .ok (.list (lstRg 0 n)) := if_pos h
  rw [e]
  unfold lstRg li rangeI
  rw [List.map_map]; rfl
theorem rgOk_small {n : Int} (h : -1000 ≤ n) (h2 : n ≤ 100000) : rgOk 0 n = true := decide_eq_true ⟨by omega, by omega, by omega, by omega, by omega⟩
theorem cut_li (l : List Int) (k : Nat) (h : k ≤ l.length) : oCut (li l) (some (k : Int)) none = .ok (li (l.drop k)) := by
  show R.ok (PyData.list (cutD (l.map PyData.int) (some (k : Int)) none)) = _
  unfold cutD
  rw [HT.sIx_nat, HT.sIx_none, List.length_map, Nat.min_eq_left h, ← List.map_drop, List.take_of_length_le (by rw [List.length_map, List.length_drop]; omega)]
  rfl
/-- a for loop that may return -/
theorem forGo_may {α : Type} {enc : α → PyData} {i : Nat} {g : Sn} (S : List α → Rho → Prop) (Z : PyData → Prop) (hs : ∀ x xs ρ, S (x :: xs) ρ → (∃ ρ', g (ρ.set i (some (.d (enc x)))) = .nx ρ' ∧ S xs ρ') ∨ ∃ d, g (ρ.set i (some (.d (enc x)))) = .rt d ∧ Z d) :
    ∀ (xs : List α) (ρ : Rho), S xs ρ → (∃ ρ', forGo (.nm i) g (xs.map enc) ρ = .nx ρ' ∧ S [] ρ') ∨ ∃ d, forGo (.nm i) g (xs.map enc) ρ = .rt d ∧ Z d
  | [], ρ, h => .inl ⟨ρ, rfl, h⟩
  | x :: xs, ρ, h => by
    have e0 : forGo (.nm i) g ((x :: xs).map enc) ρ = (match g (ρ.set i (some (.d (enc x)))) with | .nx ρ => forGo (.nm i) g (xs.map enc) ρ | .ct ρ => forGo (.nm i) g (xs.map enc) ρ | .bk ρ => .nx ρ | o => o) := by
      rw [List.map_cons]
      conv => lhs; unfold forGo
      first | (rw [set_nm]; done) | (rw [set_nm]; rfl)
    rcases hs x xs ρ h with ⟨ρ1, e1, h1⟩ | ⟨d, e1, h1⟩
    · rw [e0, e1]
      exact forGo_may S Z hs xs ρ1 h1
    · rw [e0, e1]
      exact .inr ⟨d, rfl, h1⟩
end PD

set_option Elab.async false
set_option linter.all false
set_option maxRecDepth 100000
set_option maxHeartbeats 1000000
namespace PD
open PySem PySem.Spec PyProof.Rows L2
/-! ### sorted ints -/
theorem okSort_ints (l : List Int) : okSort (l.map PyData.int) = true := by
  unfold okSort
  have h1 : allAlike (l.map PyData.int) = true := by
    unfold allAlike
    rw [List.all_eq_true]
    intro d hd
    rw [List.all_eq_true]
    intro e he
    obtain ⟨a, _, rfl⟩ := List.mem_map.mp hd
    obtain ⟨b, _, rfl⟩ := List.mem_map.mp he
    rw [PySem.W.alike]
  have h2 : allNot (l.map PyData.int) = true := by
    unfold allNot
    rw [List.all_eq_true]
    intro d hd
    obtain ⟨a, _, rfl⟩ := List.mem_map.mp hd
    rfl
  have h3 : ((l.map PyData.int).all fun d => decide (d.depth ≤ 60)) = true := by
    rw [List.all_eq_true]
    intro d hd
    obtain ⟨a, _, rfl⟩ := List.mem_map.mp hd
    exact decide_eq_true (Nat.zero_le _)
  rw [h1, h2, h3, Bool.or_true]; rfl
def sortI (l : List Int) : List Int := (sortD (l.map PyData.int)).map unInt
theorem sortD_ints (l : List Int) : sortD (l.map PyData.int) = (sortI l).map PyData.int ∧ (sortI l).Perm l := by
  have p : (sortD (l.map PyData.int)).Perm (l.map PyData.int) := List.mergeSort_perm _ _
  have all : ∀ d ∈ sortD (l.map PyData.int), PyData.int (unInt d) = d := fun d hd => by
    obtain ⟨a, _, rfl⟩ := List.mem_map.mp (p.subset hd)
    rfl
  refine ⟨?_, ?_⟩
  · unfold sortI
    rw [List.map_map]
    have e : ∀ l : List PyData, (∀ d ∈ l, PyData.int (unInt d) = d) → l.map (PyData.int ∘ unInt) = l := fun l h => by
      induction l with
      | nil => rfl
      | cons d r ih => rw [List.map_cons, ih fun x hx => h x (List.mem_cons_of_mem _ hx)]; show PyData.int (unInt d) :: r = _; rw [h d List.mem_cons_self]
    exact (e _ all).symm
  · have q := p.map unInt
    rw [List.map_map] at q
    have e : l.map (unInt ∘ PyData.int) = l := List.map_id'' (fun _ => rfl) l
    rw [e] at q
    exact q
@[simp] theorem bSorted_li (l : List Int) : bSorted [li l] = .ok (li (sortI l)) := by
  have e : bSorted [.list (l.map .int)] = .ok (.list (sortD (l.map .int))) := if_pos (okSort_ints l)
  rw [(sortD_ints l).1] at e
  exact e
@[simp] theorem bSorted_tu (l : List Int) : bSorted [tu l] = .ok (li (sortI l)) := by
  have e : bSorted [.tuple (l.map .int)] = .ok (.list (sortD (l.map .int))) := if_pos (okSort_ints l)
  rw [(sortD_ints l).1] at e
  exact e
theorem mem_sortI {l : List Int} {x : Int} : x ∈ sortI l ↔ x ∈ l := (sortD_ints l).2.mem_iff
/-! ### dicts -/
@[simp] theorem asTu_tu (l : List Int) : asTu (tu l) = some l := asInts_ints l
theorem keysOf_keyD (ks : List (List Int)) : keysOf (ks.map keyD) = ks.map some := by
  unfold keysOf
  rw [List.map_map]
  exact List.map_congr_left fun k _ => asInts_ints k
@[simp] theorem oInT_tu (k : List Int) (ks : List (List Int)) : oInT (tu k) (.dict (ks.map keyD)) = .ok (.bool (decide (k ∈ ks))) := by
  show (match asTu (tu k) with | some k => R.ok (PyData.bool (decide (some k ∈ keysOf (ks.map keyD)))) | none => .bad) = _
  rw [asTu_tu, keysOf_keyD]
  show R.ok (PyData.bool (decide (some k ∈ ks.map some))) = _
  congr 2
  by_cases h : k ∈ ks <;> simp [h]
def insK (acc : List (List Int)) (k : List Int) : List (List Int) := if k ∈ acc then acc else acc ++ [k]
theorem mem_insK {acc : List (List Int)} {k x : List Int} : x ∈ insK acc k ↔ x ∈ acc ∨ x = k := by
  unfold insK
  split
  · constructor
    · exact .inl
    · rintro (h | rfl)
      · exact h
      · assumption
  · rw [List.mem_append, List.mem_singleton]
theorem mem_foldK {x : List Int} : ∀ {ks acc : List (List Int)}, x ∈ ks.foldl insK acc ↔ x ∈ acc ∨ x ∈ ks
  | [], acc => by simp
  | k :: ks, acc => by
    rw [List.foldl_cons, mem_foldK, mem_insK, List.mem_cons]
    constructor
    · rintro ((h | h) | h)
      · exact .inl h
      · exact .inr (.inl h)
      · exact .inr (.inr h)
    · rintro (h | h | h)
      · exact .inl (.inl h)
      · exact .inl (.inr h)
      · exact .inr h
theorem dcGo_all {α : Type} {enc : α → PyData} {kf : α → List Int} {i : Nat} {fk : Dn} {ρ : Rho} : ∀ {xs : List α} {acc : List (List Int)}, (∀ x ∈ xs, fk (ρ.set i (some (.d (enc x)))) = .ok (tu (kf x))) → dcGo (.nm i) dYes fk ρ (xs.map enc) acc = .ok ((xs.map kf).foldl insK acc)
  | [], _, _ => rfl
  | x :: xs, acc, h => by
    have e : dcGo (.nm i) dYes fk ρ ((x :: xs).map enc) acc = nx (fk (ρ.set i (some (.d (enc x))))) fun y => (match asTu y with
        | some k => dcGo (.nm i) dYes fk ρ (xs.map enc) (if k ∈ acc then acc else acc ++ [k])
        | none => .bad) := by
      rw [List.map_cons]
      conv => lhs; unfold dcGo
      rw [set_nm]
      first | done | rfl
    rw [e, h x List.mem_cons_self]
    show (match asTu (tu (kf x)) with | some k => dcGo (.nm i) dYes fk ρ (xs.map enc) (if k ∈ acc then acc else acc ++ [k]) | none => .bad) = _
    rw [asTu_tu]
    show dcGo (.nm i) dYes fk ρ (xs.map enc) (insK acc (kf x)) = _
    rw [dcGo_all fun y hy => h y (List.mem_cons_of_mem _ hy)]
    rfl
/-! ### for loops that look for something -/
theorem forGo_find {α : Type} {enc : α → PyData} {i : Nat} {g : Sn} (S : Rho → Prop) (F : α → Option PyData) : ∀ {xs : List α}, (∀ x ∈ xs, ∀ ρ, S ρ → match F x with
      | some d => g (ρ.set i (some (.d (enc x)))) = .rt d
      | none => ∃ ρ', g (ρ.set i (some (.d (enc x)))) = .nx ρ' ∧ S ρ') →
    ∀ ρ, S ρ → match xs.findSome? F with
      | some d => forGo (.nm i) g (xs.map enc) ρ = .rt d
      | none => ∃ ρ', forGo (.nm i) g (xs.map enc) ρ = .nx ρ' ∧ S ρ'
  | [], _, ρ, h => ⟨ρ, rfl, h⟩
  | x :: xs, hs, ρ, h => by
    have e0 : forGo (.nm i) g ((x :: xs).map enc) ρ = (match g (ρ.set i (some (.d (enc x)))) with | .nx ρ => forGo (.nm i) g (xs.map enc) ρ | .ct ρ => forGo (.nm i) g (xs.map enc) ρ | .bk ρ => .nx ρ | o => o) := by
      rw [List.map_cons]
      conv => lhs; unfold forGo
      first | (rw [set_nm]; done) | (rw [set_nm]; rfl)
    have h1 := hs x List.mem_cons_self ρ h
    rw [List.findSome?_cons]
    cases e : F x with
    | some d =>
      rw [e] at h1
      show forGo (.nm i) g ((x :: xs).map enc) ρ = .rt d
      rw [e0, h1]
    | none =>
      rw [e] at h1
      obtain ⟨ρ1, e1, h2⟩ := h1
      have ih := forGo_find S F (xs := xs) (fun y hy => hs y (List.mem_cons_of_mem _ hy)) ρ1 h2
      rw [e0, e1]
      exact ih
@[simp] theorem oIx_t0 (a b c : PyData) : oIx (.tuple [a, b, c]) (.int 0) = .ok a := rfl
@[simp] theorem oIx_t1 (a b c : PyData) : oIx (.tuple [a, b, c]) (.int 1) = .ok b := rfl
@[simp] theorem oIx_t2 (a b c : PyData) : oIx (.tuple [a, b, c]) (.int 2) = .ok c := rfl
theorem shp_trip (a c : List Int) (x : Int) : shp (.tuple [tu a, .int x, tu c]) = true := shp_of (n := 2) (dep_tuple fun y hy => by
  simp only [List.mem_cons, List.not_mem_nil, or_false] at hy
  rcases hy with rfl | rfl | rfl
  · exact dep_tu a
  · exact ⟨rfl, Nat.zero_le _⟩
  · exact dep_tu c)
theorem oNe_trip (a c : List Int) (x : Int) : oNe (.tuple [tu a, .int x, tu c]) (.tuple [tu a, .int x, tu c]) = .ok (.bool false) := by
  unfold oNe
  rw [if_pos ⟨shp_trip a c x, shp_trip a c x⟩]
  have : PyData.eqv (.tuple [tu a, .int x, tu c]) (.tuple [tu a, .int x, tu c]) = true := by
    rw [PyData.eqv, PyData.eqvAll, PyData.eqvAll, PyData.eqvAll, PyData.eqvAll, eqv_tu, eqv_int, eqv_tu]
    simp
  rw [this]; rfl
end PD

set_option Elab.async false
set_option maxRecDepth 100000
set_option linter.all false
set_option maxHeartbeats 2000000
namespace LW
open PySem PySem.Spec PyProof.Rows L2 PD
def exch (l : List Int) (x t : Int) : List Int := sortI (l.filter (fun y => !(y == x)) ++ [t])
theorem v_law_exch (l : List Int) (x t : Int) (h : l.length ≤ 1000) : m_law_exchanged [tu l, .int x, .int t] = .ok (tu (exch l x t)) := by
  show endR (g_law_exchanged [some (.d (tu l)), some (.d (.int x)), some (.d (.int t)), none]) = _
  have hl := List.length_filter_le (fun y => !(y == x)) l
  have e1 : PyData.list [.int t] = li [t] := rfl
  have e2 := oAdd_li (a := l.filter (fun y => !(y == x))) (b := [t]) (by simp; omega)
  simp [g_law_exchanged, e1, e2, exch]
theorem v_put_in (l : List Int) (t : Int) (h : l.length ≤ 1000) : m_put_in [tu l, .int t] = .ok (tu (sortI (l ++ [t]))) := by
  show endR (g_put_in [some (.d (tu l)), some (.d (.int t))]) = _
  have e2 := oAdd_tu (a := l) (b := [t]) (by simp; omega)
  simp [g_put_in, e2]
theorem v_exchange (l : List Int) (x t : Int) (h : l.length ≤ 1000) : m_exchange [tu l, .int x, .int t] = .ok (tu (exch l x t)) := by
  show endR (g_exchange [some (.d (tu l)), some (.d (.int x)), some (.d (.int t))]) = _
  have hl := List.length_filter_le (fun y => !(y == x)) l
  simp [g_exchange, v_leave_out, v_put_in (l.filter fun y => !(y == x)) t (by omega), exch]
theorem bTupR1_ok {n : Int} (h : rgOk 0 n = true) : bTupR1 (.int n) = .ok (tu (rangeI 0 n)) := by
  have e1 : bLstR1 (.int n) = .ok (.list (lstRg 0 n)) := if_pos h
  have e2 : bTupR1 (.int n) = .ok (.tuple (lstRg 0 n)) := if_pos h
  have e := bLstR1_ok h
  rw [e1] at e
  unfold li at e
  injection e with e
  injection e with e
  rw [e2, e]
  rfl
theorem v_difference (a b : List Int) : m_difference [tu a, tu b] = .ok (tu (a.filter fun x => !decide (x ∈ b))) := by
  show endR (g_difference [some (.d (tu a)), some (.d (tu b)), none]) = _
  simp [g_difference]
theorem v_missing (n : Int) (l : List Int) (h0 : 0 ≤ n) (h1 : n ≤ 1000) : m_things_missing [.int n, tu l] = .ok (tu ((rangeI 0 n).filter fun x => !decide (x ∈ l))) := by
  show endR (g_things_missing [some (.d (.int n)), some (.d (tu l))]) = _
  simp [g_things_missing, bTupR1_ok (rgOk_small (show -1000 ≤ n by omega) (show n ≤ 100000 by omega)), v_difference]
/-- the keys of the dict of the lots -/
def known (ls : List (List Int)) : List (List Int) := (ls.map fun l => l).foldl insK []
theorem mem_known {ls : List (List Int)} {k : List Int} : k ∈ known ls ↔ k ∈ ls := by
  unfold known
  rw [mem_foldK]; simp
theorem v_known (n : Int) (ls : List (List Int)) : m_known_lots [.tuple [.int n, tt ls]] = .ok (.dict ((known ls).map keyD)) := by
  show endR (g_known_lots [some (.d (.tuple [.int n, tt ls])), none]) = _
  have e : dDc (dItems (dTwo oIx (dVar 0) (dC (.int 1)))) (.nm 1) dYes (dVar 1) [1] [some (.d (.tuple [.int n, tt ls])), none] = .ok (.dict ((known ls).map keyD)) := by
    show (nx (dcGo (.nm 1) dYes (dVar 1) _ (ls.map tu) []) fun ks => R.ok (PyData.dict (ks.map keyD))) = _
    rw [dcGo_all (kf := fun l => l) (fun l hl => by simp)]
    rfl
  simp [g_known_lots, e]
def part (n : Int) (ls : List (List Int)) (l : List Int) (x : Int) : List Int := ((rangeI 0 n).filter fun t => !decide (t ∈ l)).filter fun t => decide (exch l x t ∈ ls)
theorem v_repl (n : Int) (ls ks : List (List Int)) (l : List Int) (x : Int) (h0 : 0 ≤ n) (h1 : n ≤ 1000) (hl : l.length ≤ 1000) (hk : ∀ k, k ∈ ks ↔ k ∈ ls) : m_replacements [.tuple [.int n, tt ls], .dict (ks.map keyD), tu l, .int x] = .ok (li (part n ls l x)) := by
  show endR (g_replacements [some (.d (.tuple [.int n, tt ls])), some (.d (.dict (ks.map keyD))), some (.d (tu l)), some (.d (.int x)), none, none]) = _
  have e : ∀ t : Int, decide (exch l x t ∈ ks) = decide (exch l x t ∈ ls) := fun t => decide_eq_decide.mpr (hk _)
  simp [g_replacements, v_missing n l h0 h1, v_exchange l x _ hl, e, part]
theorem anyR_ok {α : Type} (p : α → Bool) (xs : List α) : anyR true (fun x => .ok (.bool (p x))) xs = .ok (xs.any p) := anyR_of fun _ _ => rfl
def Bad (ls : List (List Int)) (l : List Int) (x : Int) (o : List Int) : Prop := ¬ x ∈ o ∧ ∀ t, t ∈ o → ¬ t ∈ l → ¬ exch l x t ∈ ls
instance (ls : List (List Int)) (l : List Int) (x : Int) (o : List Int) : Decidable (Bad ls l x o) := by unfold Bad; infer_instance
def trip (l : List Int) (x : Int) (o : List Int) : PyData := .tuple [tu l, .int x, tu o]
def findO (ls : List (List Int)) (l : List Int) (x : Int) (o : List Int) : Option PyData := if Bad ls l x o then some (trip l x o) else none
def findX (ls : List (List Int)) (l : List Int) (x : Int) : Option PyData := ls.findSome? (findO ls l x)
def findL (ls : List (List Int)) (l : List Int) : Option PyData := l.findSome? (findX ls l)
def faultD (ls : List (List Int)) : PyData := (ls.findSome? (findL ls)).getD .none
theorem v_law_fault (ls : List (List Int)) (h : ∀ l ∈ ls, l.length ≤ 1000) : m_law_fault [tt ls] = .ok (faultD ls) := by
  show endR (g_law_fault [some (.d (tt ls)), none, none, none, none, none]) = _
  have k3 := forGo_find (i := 1) (g := b_law_fault_3) (enc := tu) (fun ρ => ∃ o1 o2 o3 o4, ρ = [some (.d (tt ls)), o1, o2, o3, o4, none]) (findL ls) (xs := ls) (by
    rintro l hl ρ ⟨o1, o2, o3, o4, rfl⟩
    have k2 := forGo_find (i := 2) (g := b_law_fault_2) (enc := PyData.int) (fun ρ => ∃ o2 o3 o4, ρ = [some (.d (tt ls)), some (.d (tu l)), o2, o3, o4, none]) (findX ls l) (xs := l) (by
      rintro x hx ρ ⟨o2, o3, o4, rfl⟩
      have k1 := forGo_find (i := 3) (g := b_law_fault_1) (enc := tu) (fun ρ => ∃ o3 o4, ρ = [some (.d (tt ls)), some (.d (tu l)), some (.d (.int x)), o3, o4, none]) (findO ls l x) (xs := ls) (by
        rintro o ho ρ ⟨o3, o4, rfl⟩
        have ee := fun t => v_law_exch l x t (h l hl)
        unfold findO
        by_cases hb : Bad ls l x o
        · simp only [hb, if_true]
          obtain ⟨h1, h2⟩ := hb
          simp [b_law_fault_1, h1, ee, trip]
          exact h2
        · simp only [hb, if_false]
          by_cases hx : x ∈ o
          · exact ⟨[some (.d (tt ls)), some (.d (tu l)), some (.d (.int x)), some (.d (tu o)), o4, none], by simp [b_law_fault_1, hx], _, _, rfl⟩
          · have h2 : ¬ ∀ t, t ∈ o → ¬ t ∈ l → ¬ exch l x t ∈ ls := fun z => hb ⟨hx, z⟩
            refine ⟨[some (.d (tt ls)), some (.d (tu l)), some (.d (.int x)), some (.d (tu o)), some (.d (li (o.filter fun t => !decide (t ∈ l)))), none], ?_, _, _, rfl⟩
            simp [b_law_fault_1, hx, ee, h2])
      have r := k1 [some (.d (tt ls)), some (.d (tu l)), some (.d (.int x)), o3, o4, none] ⟨o3, o4, rfl⟩
      unfold findX
      cases e : ls.findSome? (findO ls l x) with
      | some d => rw [e] at r; simp only; simp [b_law_fault_2]; exact r
      | none =>
        rw [e] at r
        obtain ⟨ρ', r1, o3', o4', rfl⟩ := r
        refine ⟨[some (.d (tt ls)), some (.d (tu l)), some (.d (.int x)), o3', o4', none], ?_, _, _, _, rfl⟩
        simp [b_law_fault_2]; exact r1)
    have r := k2 [some (.d (tt ls)), some (.d (tu l)), o2, o3, o4, none] ⟨o2, o3, o4, rfl⟩
    unfold findL
    cases e : l.findSome? (findX ls l) with
    | some d => rw [e] at r; simp only; simp [b_law_fault_3]; exact r
    | none =>
      rw [e] at r
      obtain ⟨ρ', r1, o2', o3', o4', rfl⟩ := r
      refine ⟨[some (.d (tt ls)), some (.d (tu l)), o2', o3', o4', none], ?_, _, _, _, _, rfl⟩
      simp [b_law_fault_3]; exact r1)
  have r := k3 [some (.d (tt ls)), none, none, none, none, none] ⟨none, none, none, none, rfl⟩
  unfold faultD
  cases e : ls.findSome? (findL ls) with
  | some d => rw [e] at r; simp [g_law_fault]; rw [r]; rfl
  | none =>
    rw [e] at r
    obtain ⟨ρ', r1, o1, o2, o3, o4, rfl⟩ := r
    simp [g_law_fault]; rw [r1]; rfl
theorem part_iff {n : Int} {ls : List (List Int)} {l o : List Int} {x : Int} (ho : Asc n o) : (¬ ∃ t, t ∈ o ∧ t ∈ part n ls l x) ↔ ∀ t, t ∈ o → ¬ t ∈ l → ¬ exch l x t ∈ ls := by
  have m : ∀ t, t ∈ o → (t ∈ part n ls l x ↔ ¬ t ∈ l ∧ exch l x t ∈ ls) := fun t ht => by
    unfold part
    rw [List.mem_filter, List.mem_filter, mem_rangeI]
    have := ho.2 t ht
    constructor
    · rintro ⟨⟨_, a⟩, b⟩
      exact ⟨by simpa using a, by simpa using b⟩
    · rintro ⟨a, b⟩
      exact ⟨⟨by omega, by simpa using a⟩, by simpa using b⟩
  constructor
  · intro h t ht hl he
    exact h ⟨t, ht, (m t ht).mpr ⟨hl, he⟩⟩
  · rintro h ⟨t, ht, hp⟩
    obtain ⟨a, b⟩ := (m t ht).mp hp
    exact h t ht a b
theorem v_first_fault (n : Int) (ls : List (List Int)) (h0 : 0 ≤ n) (h1 : n ≤ 1000) (h : ∀ l ∈ ls, Asc n l) : m_first_fault [.tuple [.int n, tt ls]] = .ok (faultD ls) := by
  show endR (g_first_fault [some (.d (.tuple [.int n, tt ls])), none, none, none, none, none, none, none]) = _
  generalize hO : PyData.tuple [.int n, tt ls] = O
  have ep : ∀ l ∈ ls, ∀ x : Int, m_replacements [O, .dict ((known ls).map keyD), tu l, .int x] = .ok (li (part n ls l x)) := fun l hl x => by
    rw [← hO]
    exact v_repl n ls (known ls) l x h0 h1 (by have := (h l hl).len; omega) fun k => mem_known
  have eD : m_known_lots [O] = .ok (.dict ((known ls).map keyD)) := by
    rw [← hO]
    exact v_known n ls
  generalize hD : PyData.dict ((known ls).map keyD) = D at ep eD
  have k3 := forGo_find (i := 3) (g := b_first_fault_3) (enc := tu) (fun ρ => ∃ o3 o4 o5 o6, ρ = [some (.d O), some (.d (tt ls)), some (.d D), o3, o4, o5, o6, none]) (findL ls) (xs := ls) (by
    rintro l hl ρ ⟨o3, o4, o5, o6, rfl⟩
    have k2 := forGo_find (i := 4) (g := b_first_fault_2) (enc := PyData.int) (fun ρ => ∃ o4 o5 o6, ρ = [some (.d O), some (.d (tt ls)), some (.d D), some (.d (tu l)), o4, o5, o6, none]) (findX ls l) (xs := l) (by
      rintro x hx ρ ⟨o4, o5, o6, rfl⟩
      have k1 := forGo_find (i := 6) (g := b_first_fault_1) (enc := tu) (fun ρ => ∃ o6, ρ = [some (.d O), some (.d (tt ls)), some (.d D), some (.d (tu l)), some (.d (.int x)), some (.d (li (part n ls l x))), o6, none]) (findO ls l x) (xs := ls) (by
        rintro o ho ρ ⟨o6, rfl⟩
        have pi := part_iff (ls := ls) (l := l) (x := x) (h o ho)
        unfold findO
        by_cases hb : Bad ls l x o
        · simp only [hb, if_true]
          obtain ⟨h1, h2⟩ := hb
          have h3 := pi.mpr h2
          have h4 : ∀ t, t ∈ o → ¬ t ∈ part n ls l x := fun t a b => h3 ⟨t, a, b⟩
          simp [b_first_fault_1, h1, anyR_map, anyR_ok, trip]
          exact h4
        · simp only [hb, if_false]
          refine ⟨[some (.d O), some (.d (tt ls)), some (.d D), some (.d (tu l)), some (.d (.int x)), some (.d (li (part n ls l x))), some (.d (tu o)), none], ?_, _, rfl⟩
          by_cases hx : x ∈ o
          · simp [b_first_fault_1, hx]
          · have h3 : ∃ t, t ∈ o ∧ t ∈ part n ls l x := Classical.byContradiction fun z => hb ⟨hx, pi.mp z⟩
            have h4 : ¬ ∀ t, t ∈ o → ¬ t ∈ part n ls l x := fun z => let ⟨t, a, b⟩ := h3; z t a b
            simp [b_first_fault_1, hx, anyR_map, anyR_ok, h3, h4])
      have r := k1 [some (.d O), some (.d (tt ls)), some (.d D), some (.d (tu l)), some (.d (.int x)), some (.d (li (part n ls l x))), o6, none] ⟨o6, rfl⟩
      unfold findX
      cases e : ls.findSome? (findO ls l x) with
      | some d => rw [e] at r; simp only; simp [b_first_fault_2, ep l hl]; exact r
      | none =>
        rw [e] at r
        obtain ⟨ρ', r1, o6', rfl⟩ := r
        refine ⟨[some (.d O), some (.d (tt ls)), some (.d D), some (.d (tu l)), some (.d (.int x)), some (.d (li (part n ls l x))), o6', none], ?_, _, _, _, rfl⟩
        simp [b_first_fault_2, ep l hl]; exact r1)
    have r := k2 [some (.d O), some (.d (tt ls)), some (.d D), some (.d (tu l)), o4, o5, o6, none] ⟨o4, o5, o6, rfl⟩
    unfold findL
    cases e : l.findSome? (findX ls l) with
    | some d => rw [e] at r; simp only; simp [b_first_fault_3]; exact r
    | none =>
      rw [e] at r
      obtain ⟨ρ', r1, o4', o5', o6', rfl⟩ := r
      refine ⟨[some (.d O), some (.d (tt ls)), some (.d D), some (.d (tu l)), o4', o5', o6', none], ?_, _, _, _, _, rfl⟩
      simp [b_first_fault_3]; exact r1)
  have r := k3 [some (.d O), some (.d (tt ls)), some (.d D), none, none, none, none, none] ⟨none, none, none, none, rfl⟩
  have e0 : oIx O (.int 1) = .ok (tt ls) := by rw [← hO]; rfl
  unfold faultD
  cases e : ls.findSome? (findL ls) with
  | some d => rw [e] at r; simp [g_first_fault, e0, eD]; rw [r]; rfl
  | none =>
    rw [e] at r
    obtain ⟨ρ', r1, o3, o4, o5, o6, rfl⟩ := r
    simp [g_first_fault, e0, eD]; rw [r1]; rfl
theorem faultD_is (ls : List (List Int)) : faultD ls = .none ∨ ∃ l x o, l ∈ ls ∧ o ∈ ls ∧ faultD ls = trip l x o := by
  unfold faultD
  cases e : ls.findSome? (findL ls) with
  | none => exact .inl rfl
  | some d =>
    refine .inr ?_
    obtain ⟨l, hl, e1⟩ := List.exists_of_findSome?_eq_some e
    obtain ⟨x, hx, e2⟩ := List.exists_of_findSome?_eq_some e1
    obtain ⟨o, ho, e3⟩ := List.exists_of_findSome?_eq_some e2
    unfold findO at e3
    split at e3
    · cases e3
      exact ⟨l, x, o, hl, ho, rfl⟩
    · cases e3
theorem v_is_smooth (n : Int) (ls : List (List Int)) (h0 : 0 ≤ n) (h1 : n ≤ 1000) (h : ∀ l ∈ ls, Asc n l) : m_is_smooth [.tuple [.int n, tt ls]] = .ok (.bool (isNone (faultD ls))) := by
  show endR (g_is_smooth [some (.d (.tuple [.int n, tt ls]))]) = _
  simp [g_is_smooth, v_first_fault n ls h0 h1 h]
end LW

set_option Elab.async false
set_option linter.all false
set_option maxRecDepth 100000
set_option maxHeartbeats 1000000
namespace PD
open PySem PySem.Spec PyProof.Rows L2 NtL

/-! ### the order of tuples of ints, and sorting by it -/
theorem dataLt_tu : ∀ a b : List Int, PySem.W.dataLt (tu a) (tu b) = HT.lexLt a b
  | [], [] => by rfl
  | [], y :: b => by
    show PySem.W.dataLt (.tuple []) (.tuple (.int y :: b.map .int)) = true
    rw [PySem.W.dataLt_tuple]
    rfl
  | x :: a, [] => by
    show PySem.W.dataLt (.tuple (.int x :: a.map .int)) (.tuple []) = false
    rw [PySem.W.dataLt_tuple]
    rfl
  | x :: a, y :: b => by
    have ih := dataLt_tu a b
    show PySem.W.dataLt (.tuple (.int x :: a.map .int)) (.tuple (.int y :: b.map .int)) = _
    change PySem.W.dataLt (.tuple (a.map .int)) (.tuple (b.map .int)) = _ at ih
    rw [PySem.W.dataLt_tuple] at ih
    rw [PySem.W.dataLt_tuple, PySem.W.dataLt_cons (by rfl), ih, PySem.W.dataLt_int, HT.lexLt_cons]
    by_cases e : x = y
    · rw [if_pos e, if_pos (by subst e; simp [PyData.eqv])]
    · rw [if_neg e, if_neg (by simp [PyData.eqv, e])]
theorem leT_total (a b : List Int) : (leT a b || leT b a) = true := by
  unfold leT
  cases e : HT.lexLt b a with
  | false => rfl
  | true => rw [lex_asym b a e]; rfl
theorem leT_trans (a b c : List Int) (h1 : leT a b = true) (h2 : leT b c = true) : leT a c = true := by
  unfold leT at *
  have e1 : HT.lexLt b a = false := by simpa using h1
  have e2 : HT.lexLt c b = false := by simpa using h2
  rw [lex_tr a b c e1 e2]
  rfl
theorem lex_ne : ∀ a b : List Int, HT.lexLt a b = false → HT.lexLt b a = false → a = b
  | [], [], _, _ => rfl
  | [], _ :: _, h, _ => by cases h
  | _ :: _, [], _, h => by cases h
  | x :: a, y :: b, h1, h2 => by
    rw [HT.lexLt_cons] at h1 h2
    by_cases e : x = y
    · rw [if_pos e] at h1
      rw [if_pos e.symm] at h2
      rw [e, lex_ne a b h1 h2]
    · rw [if_neg e] at h1
      rw [if_neg (Ne.symm e)] at h2
      have a := of_decide_eq_false h1
      have b := of_decide_eq_false h2
      omega
theorem sortT_eq (ls : List (List Int)) : sortT ls = ls.mergeSort leT := by
  have h : sortD (ls.map tu) = (ls.mergeSort leT).map tu := by
    unfold sortD
    refine (List.map_mergeSort (f := tu) (r := leT) (s := PySem.W.dataLe false id) (l := ls) fun a _ b _ => ?_).symm
    show leT a b = !(PySem.W.dataLt (tu b) (tu a))
    rw [dataLt_tu]
    rfl
  unfold sortT
  rw [h, List.map_map]
  exact List.map_id'' (fun l => unTu_tu l) _
theorem sortT_le (ls : List (List Int)) : (sortT ls).Pairwise fun a b => leT a b = true := by
  rw [sortT_eq]
  exact List.pairwise_mergeSort leT_trans leT_total ls
/-- rows in strictly ascending order -/
def Asd (ls : List (List Int)) : Prop := ls.Pairwise fun a b => HT.lexLt a b = true
theorem asd_of {ls : List (List Int)} (h : ls.Pairwise fun a b => leT a b = true) (n : ls.Nodup) : Asd ls := by
  refine (h.and n).imp fun {a b} ⟨h1, h2⟩ => ?_
  cases e : HT.lexLt a b with
  | true => rfl
  | false =>
    unfold leT at h1
    exact absurd (lex_ne a b e (by simpa using h1)) h2
theorem asd_sortT {ls : List (List Int)} (n : ls.Nodup) : Asd (sortT ls) := asd_of (sortT_le ls) ((sortT_perm ls).nodup_iff.mpr n)
theorem lex_irr (a : List Int) : HT.lexLt a a = false := by
  cases e : HT.lexLt a a with
  | false => rfl
  | true =>
    have z := lex_asym a a e
    rw [e] at z
    exact z
theorem Asd.nodup {ls : List (List Int)} (h : Asd ls) : ls.Nodup := h.imp fun {a b} e z => by
  subst z
  rw [lex_irr] at e
  cases e
/-- a sorted list is told by what is in it -/
theorem asd_ext {ls ks : List (List Int)} (h : Asd ls) (k : Asd ks) (e : ∀ x, x ∈ ls ↔ x ∈ ks) : ls = ks := by
  refine List.Perm.eq_of_pairwise (le := fun a b => HT.lexLt a b = true) ?_ h k ((List.perm_ext_iff_of_nodup h.nodup k.nodup).mpr e)
  intro a b _ _ h1 h2
  rw [lex_asym a b h1] at h2
  cases h2
theorem sortT_self {ls : List (List Int)} (h : Asd ls) : sortT ls = ls := asd_ext (asd_sortT h.nodup) h fun x => mem_sortT
theorem sortT_ext {ls ks : List (List Int)} (h : ls.Nodup) (k : ks.Nodup) (e : ∀ x, x ∈ ls ↔ x ∈ ks) : sortT ls = sortT ks :=
  asd_ext (asd_sortT h) (asd_sortT k) fun x => by rw [mem_sortT, mem_sortT, e]
end PD

set_option Elab.async false
set_option maxRecDepth 100000
set_option linter.all false
set_option maxHeartbeats 2000000
namespace LW
open PySem PySem.Spec PyProof.Rows L2 PD
theorem ix_tt {L : List (List Int)} {i : Int} (h0 : 0 ≤ i) (h1 : i < (L.length : Int)) : oIx (tt L) (.int i) = .ok (tu (ixr L i)) := ix_lt (L := L) h0 h1
theorem asd_ix {ls : List (List Int)} (h : Asd ls) {i j : Int} (h0 : 0 ≤ i) (h1 : i < j) (h2 : j < (ls.length : Int)) : HT.lexLt (ixr ls i) (ixr ls j) = true := by
  have a : i.toNat < ls.length := by omega
  have b : j.toNat < ls.length := by omega
  unfold ixr
  rw [List.getElem?_eq_getElem a, List.getElem?_eq_getElem b]
  exact (List.pairwise_iff_getElem.mp h) _ _ a b (by omega)
theorem oLeT_tus (k l : List Int) : oLeT (tu k) (tu l) = .ok (.bool (leT k l)) := oLeT_tu k l
theorem bLen_tt (ls : List (List Int)) : bLen [tt ls] = .ok (.int ls.length) := by
  show R.ok (PyData.int ((ls.map tu).length : Int)) = _
  rw [List.length_map]
theorem v_is_some_offer (n : Int) (ls : List (List Int)) (h : ∀ l ∈ ls, Asc n l) (hn : n ≤ 1000) (ha : Asd ls) (hne : ls ≠ []) (hz : ls.length ≤ 1000) : m_law_is_some_offer [.tuple [.int n, tt ls], .int n] = .ok (.bool true) := by
  show endR (g_law_is_some_offer [some (.d (.tuple [.int n, tt ls])), some (.d (.int n)), none]) = _
  have j1 : oIx (.tuple [.int n, tt ls]) (.int 1) = .ok (tt ls) := rfl
  have j0 : oIx (.tuple [.int n, tt ls]) (.int 0) = .ok (.int n) := rfl
  have key := forGo_inv (i := 2) (g := b_law_is_some_offer_1) (enc := PyData.int) (fun xs ρ => ∃ o2, ρ = [some (.d (.tuple [.int n, tt ls])), some (.d (.int n)), o2] ∧ ∀ k ∈ xs, 0 ≤ k ∧ k < (ls.length : Int)) (by
    rintro k xs ρ ⟨o2, rfl, hk⟩
    obtain ⟨k0, k1⟩ := hk k List.mem_cons_self
    refine ⟨[some (.d (.tuple [.int n, tt ls])), some (.d (.int n)), some (.d (.int k))], ?_, _, rfl, fun y hy => hk y (List.mem_cons_of_mem _ hy)⟩
    have e := ix_tt (L := ls) k0 k1
    have m := h _ (ixr_mem k0 k1)
    have s := v_is_set _ n m (by have := m.len; omega)
    by_cases hp : 0 < k
    · have e2 := ix_tt (L := ls) (i := k - 1) (by omega) (by omega)
      have a3 := asd_ix ha (i := k - 1) (j := k) (by omega) (by omega) k1
      have a4 : leT (ixr ls k) (ixr ls (k - 1)) = false := by unfold leT; rw [a3]; rfl
      simp [b_law_is_some_offer_1, j1, e, s, hp, e2, oLeT_tus, a4]
    · simp [b_law_is_some_offer_1, j1, e, s, hp])
  obtain ⟨ρ', e, o2, rfl, _⟩ := key (rangeI 0 ls.length) [some (.d (.tuple [.int n, tt ls])), some (.d (.int n)), none] ⟨none, rfl, fun k hk => mem_rangeI.mp hk⟩
  have b2 : bLen [.tuple [.int n, tt ls]] = .ok (.int 2) := rfl
  have hl : ls.length ≠ 0 := fun z => hne (List.eq_nil_of_length_eq_zero z)
  simp [g_law_is_some_offer, isi_tuple, isi_tt, b2, j0, j1, bLen_tt, v_integer, hne, hl, rngA1_ok (n := (ls.length : Int)) (by omega) (by omega), e]
/-- what a lot does not have -/
def rest (n : Int) (l : List Int) : List Int := (rangeI 0 n).filter fun x => !decide (x ∈ l)
theorem v_opposite (n : Int) (ls : List (List Int)) (h0 : 0 ≤ n) (h1 : n ≤ 1000) : m_opposite [.tuple [.int n, tt ls]] = .ok (.tuple [.int n, tt (sortT (ls.map (rest n)))]) := by
  show endR (g_opposite [some (.d (.tuple [.int n, tt ls])), none, none, none]) = _
  have e : lcR (fun _ => .ok true) (fun l => m_things_missing [.int n, tu l]) ls = .ok (ls.map fun l => tu (rest n l)) := lcR_mem fun l _ => v_missing n l h0 h1
  simp [g_opposite, e]
def opened (g : Int) (l : List Int) : List Int := l.filter (fun x => decide (x < g)) ++ (l.filter fun x => decide (g ≤ x)).map (· + 1)
theorem v_opened (g : Int) (l : List Int) (hl : l.length ≤ 1000) : m_law_opened [tu l, .int g] = .ok (tu (opened g l)) := by
  show endR (g_law_opened [some (.d (tu l)), some (.d (.int g)), none]) = _
  have a : (l.filter fun x => decide (x < g)).length ≤ l.length := List.length_filter_le _ _
  have b : (l.filter fun x => decide (g ≤ x)).length ≤ l.length := List.length_filter_le _ _
  have c := oAdd_li (a := l.filter fun x => decide (x < g)) (b := (l.filter fun x => decide (g ≤ x)).map (· + 1)) (by rw [List.length_map]; omega)
  simp [g_law_opened, opened, c]
def rank (A : List Int) (ls : List (List Int)) : Int := maxI (ls.map fun l => ((l.filter fun x => decide (x ∈ A)).length : Int))
theorem v_rank (A : List Int) (ls : List (List Int)) (hne : ls ≠ []) : m_law_rank [tu A, tt ls] = .ok (.int (rank A ls)) := by
  show endR (g_law_rank [some (.d (tu A)), some (.d (tt ls)), none, none]) = _
  have hb := bMax_li (l := ls.map fun l => ((l.filter fun x => decide (x ∈ A)).length : Int)) (by simpa using hne)
  simp [g_law_rank, rank, hb]
end LW

set_option Elab.async false
set_option maxRecDepth 100000
set_option linter.all false
set_option maxHeartbeats 2000000
namespace LW
open PySem PySem.Spec PyProof.Rows L2 PD
theorem asc_sub : ∀ {x o : List Int}, x.Pairwise (· < ·) → o.Pairwise (· < ·) → (∀ y ∈ x, y ∈ o) → x.Sublist o
  | [], o, _, _, _ => List.nil_sublist o
  | a :: x, [], _, _, h => absurd (h a List.mem_cons_self) (by simp)
  | a :: x, b :: o, hx, ho, h => by
    obtain ⟨x1, x2⟩ := List.pairwise_cons.mp hx
    obtain ⟨o1, o2⟩ := List.pairwise_cons.mp ho
    by_cases e : a = b
    · subst e
      refine (asc_sub x2 o2 fun y hy => ?_).cons_cons a
      rcases List.mem_cons.mp (h y (List.mem_cons_of_mem _ hy)) with z | z
      · have := x1 y hy; omega
      · exact z
    · have ha : a ∈ o := (List.mem_cons.mp (h a List.mem_cons_self)).resolve_left e
      have hb := o1 a ha
      refine (asc_sub hx o2 fun y hy => ?_).cons b
      rcases List.mem_cons.mp (h y hy) with z | z
      · rcases List.mem_cons.mp hy with q | q
        · omega
        · have := x1 y q; omega
      · exact z
theorem asc_ext {x o : List Int} (hx : x.Pairwise (· < ·)) (ho : o.Pairwise (· < ·)) (h : ∀ y, y ∈ x ↔ y ∈ o) : x = o :=
  let a := asc_sub hx ho fun y hy => (h y).mp hy
  a.eq_of_length (Nat.le_antisymm a.length_le (asc_sub ho hx fun y hy => (h y).mpr hy).length_le)
theorem sortT_congr {ls ks : List (List Int)} (p : ls.Perm ks) : sortT ls = sortT ks := by
  refine List.Perm.eq_of_pairwise (le := fun a b => leT a b = true) ?_ (sortT_le ls) (sortT_le ks) (((sortT_perm ls).trans p).trans (sortT_perm ks).symm)
  intro a b _ _ h1 h2
  unfold leT at h1 h2
  exact lex_ne a b (by simpa using h2) (by simpa using h1)
theorem mem_gone {x y : Int} {l : List Int} : y ∈ gone x l ↔ if y < x then y ∈ l else y + 1 ∈ l := by
  unfold gone
  rw [List.mem_map]
  constructor
  · rintro ⟨z, hz, e⟩
    obtain ⟨h1, h2⟩ := List.mem_filter.mp hz
    have h3 : ¬ z = x := by simpa using h2
    by_cases c : x < z
    · rw [if_pos c] at e
      have e2 : y + 1 = z := by omega
      rw [if_neg (by omega), e2]
      exact h1
    · rw [if_neg c] at e
      rw [if_pos (by omega), ← e]
      exact h1
  · intro h
    by_cases c : y < x
    · rw [if_pos c] at h
      exact ⟨y, List.mem_filter.mpr ⟨h, by simp; omega⟩, if_neg (by omega)⟩
    · rw [if_neg c] at h
      exact ⟨y + 1, List.mem_filter.mpr ⟨h, by simp; omega⟩, by rw [if_pos (by omega)]; omega⟩
theorem mem_rest {n y : Int} {l : List Int} : y ∈ rest n l ↔ (0 ≤ y ∧ y < n) ∧ ¬ y ∈ l := by
  unfold rest
  rw [List.mem_filter, mem_rangeI]
  simp
theorem rest_asc (n : Int) (l : List Int) : Asc n (rest n l) := asc_rest n _
theorem rest_rest {n : Int} {l : List Int} (h : Asc n l) : rest n (rest n l) = l := by
  refine asc_ext (rest_asc n _).1 h.1 fun y => ?_
  rw [mem_rest, mem_rest]
  constructor
  · rintro ⟨a, b⟩
    exact Classical.byContradiction fun c => b ⟨a, c⟩
  · intro c
    exact ⟨h.2 y c, fun z => z.2 c⟩
theorem gone_rest {n x : Int} {l : List Int} (h : Asc n l) (hx : 0 ≤ x ∧ x < n) : gone x (rest n l) = rest (n - 1) (gone x l) := by
  refine asc_ext (gone_asc (rest_asc n l) hx).1 (rest_asc _ _).1 fun y => ?_
  rw [mem_gone, mem_rest (n := n - 1), mem_gone]
  by_cases c : y < x
  · rw [if_pos c, if_pos c, mem_rest]
    constructor
    · rintro ⟨⟨a, b⟩, d⟩
      exact ⟨⟨a, by omega⟩, d⟩
    · rintro ⟨⟨a, b⟩, d⟩
      exact ⟨⟨a, by omega⟩, d⟩
  · rw [if_neg c, if_neg c, mem_rest]
    constructor
    · rintro ⟨⟨a, b⟩, d⟩
      exact ⟨⟨by omega, by omega⟩, d⟩
    · rintro ⟨⟨a, b⟩, d⟩
      exact ⟨⟨by omega, by omega⟩, d⟩
theorem gone_inj {n x : Int} {l k : List Int} (h : Asc n l) (h' : Asc n k) (hx : x ∈ l ↔ x ∈ k) (e : gone x l = gone x k) : l = k := by
  refine asc_ext h.1 h'.1 fun y => ?_
  have m : ∀ z, (if z < x then z ∈ l else z + 1 ∈ l) ↔ (if z < x then z ∈ k else z + 1 ∈ k) := fun z => by rw [← mem_gone, ← mem_gone, e]
  by_cases c : y = x
  · rw [c]; exact hx
  · by_cases d : y < x
    · have := m y
      rwa [if_pos d, if_pos d] at this
    · have := m (y - 1)
      rw [if_neg (by omega), if_neg (by omega)] at this
      rwa [show y - 1 + 1 = y by omega] at this
theorem orAll_same {ls : List (List Int)} {p : List Int → Bool} {l k : List Int} (hl : l ∈ orAll ls (ls.filter p)) (hk : k ∈ orAll ls (ls.filter p)) : p l = p k := by
  unfold orAll at hl hk
  by_cases c : (ls.filter p).length = 0
  · rw [if_pos c] at hl hk
    have z := List.eq_nil_of_length_eq_zero c
    have f : ∀ m ∈ ls, p m = false := fun m hm => by
      cases e : p m with
      | false => rfl
      | true =>
        have : m ∈ ls.filter p := List.mem_filter.mpr ⟨hm, e⟩
        rw [z] at this
        cases this
    rw [f l hl, f k hk]
  · rw [if_neg c] at hl hk
    rw [(List.mem_filter.mp hl).2, (List.mem_filter.mp hk).2]
theorem orAll_mem {ls : List (List Int)} {p : List Int → Bool} {l : List Int} (hl : l ∈ orAll ls (ls.filter p)) : l ∈ ls := by
  unfold orAll at hl
  split at hl
  · exact hl
  · exact (List.mem_filter.mp hl).1
theorem orAll_nodup {ls : List (List Int)} {p : List Int → Bool} (n : ls.Nodup) : (orAll ls (ls.filter p)).Nodup := by
  unfold orAll
  split
  · exact n
  · exact n.filter p
theorem orAll_ne {ls : List (List Int)} {p : List Int → Bool} (n : ls ≠ []) : orAll ls (ls.filter p) ≠ [] := by
  unfold orAll
  split
  · exact n
  · rename_i c
    exact fun z => c (by rw [z]; rfl)
/-- the lots behind without and holding -/
def less (p : List Int → Bool) (x : Int) (ls : List (List Int)) : List (List Int) := sortT ((orAll ls (ls.filter p)).map (gone x))
theorem less_asd {n x : Int} {p : List Int → Bool} {ls : List (List Int)} (h : ∀ l ∈ ls, Asc n l) (nd : ls.Nodup) (hp : ∀ l k, p l = p k → (x ∈ l ↔ x ∈ k)) : Asd (less p x ls) := by
  refine asd_sortT ?_
  refine List.pairwise_map.mpr ((orAll_nodup nd).imp_of_mem fun {a b} ha hb ne e => ne ?_)
  exact gone_inj (h a (orAll_mem ha)) (h b (orAll_mem hb)) (hp a b (orAll_same ha hb)) e
theorem less_asc {n x : Int} {p : List Int → Bool} {ls : List (List Int)} (h : ∀ l ∈ ls, Asc n l) (hx : 0 ≤ x ∧ x < n) : ∀ l ∈ less p x ls, Asc (n - 1) l := fun l hl => by
  obtain ⟨k, hk, rfl⟩ := List.mem_map.mp (mem_sortT.mp hl)
  exact gone_asc (h k (orAll_mem hk)) hx
theorem less_ne {x : Int} {p : List Int → Bool} {ls : List (List Int)} (h : ls ≠ []) : less p x ls ≠ [] := fun z => by
  have : (less p x ls).length = 0 := by rw [z]; rfl
  unfold less at this
  rw [(sortT_perm _).length_eq, List.length_map] at this
  exact orAll_ne h (List.eq_nil_of_length_eq_zero this)
theorem less_len {x : Int} {p : List Int → Bool} {ls : List (List Int)} : (less p x ls).length ≤ ls.length := by
  unfold less
  rw [(sortT_perm _).length_eq, List.length_map]
  unfold orAll
  split
  · exact Nat.le_refl _
  · exact List.length_filter_le _ _
/-- what the lots do not have -/
def opp (n : Int) (ls : List (List Int)) : List (List Int) := sortT (ls.map (rest n))
theorem orAll_map (f : List Int → List Int) (p : List Int → Bool) (ls : List (List Int)) : orAll (ls.map f) ((ls.map f).filter p) = (orAll ls (ls.filter (p ∘ f))).map f := by
  unfold orAll
  rw [List.filter_map, List.length_map]
  split <;> rfl
theorem orAll_perm {ls ks : List (List Int)} (h : ls.Perm ks) (p : List Int → Bool) : (orAll ls (ls.filter p)).Perm (orAll ks (ks.filter p)) := by
  unfold orAll
  rw [(h.filter p).length_eq]
  split
  · exact h
  · exact h.filter p
theorem opp_less {n x : Int} {ls : List (List Int)} {p q : List Int → Bool} (h : ∀ l ∈ ls, Asc n l) (hx : 0 ≤ x ∧ x < n) (hpq : ∀ l ∈ ls, q (rest n l) = p l) : opp (n - 1) (less p x ls) = less q x (opp n ls) := by
  unfold opp less
  have a := sortT_congr ((sortT_perm ((orAll ls (ls.filter p)).map (gone x))).map (rest (n - 1)))
  have b := sortT_congr ((orAll_perm (sortT_perm (ls.map (rest n))) q).map (gone x))
  rw [a, b, orAll_map, List.map_map, List.map_map]
  have c : ls.filter (q ∘ rest n) = ls.filter p := List.filter_congr fun l hl => hpq l hl
  rw [c]
  congr 1
  refine List.map_congr_left fun l hl => ?_
  exact (gone_rest (h l (orAll_mem hl)) hx).symm
def has (x : Int) (l : List Int) : Bool := decide (x ∈ l)
def hasno (x : Int) (l : List Int) : Bool := !decide (x ∈ l)
theorem v_withoutL (n : Int) (ls : List (List Int)) (x : Int) : m_without [.tuple [.int n, tt ls], .int x] = .ok (.tuple [.int (n - 1), tt (less (hasno x) x ls)]) := v_without n ls x
theorem v_holdingL (n : Int) (ls : List (List Int)) (x : Int) : m_holding [.tuple [.int n, tt ls], .int x] = .ok (.tuple [.int (n - 1), tt (less (has x) x ls)]) := v_holding n ls x
theorem v_oppositeL (n : Int) (ls : List (List Int)) (h0 : 0 ≤ n) (h1 : n ≤ 1000) : m_opposite [.tuple [.int n, tt ls]] = .ok (.tuple [.int n, tt (opp n ls)]) := v_opposite n ls h0 h1
theorem has_rest {n x : Int} (l : List Int) (hx : 0 ≤ x ∧ x < n) : has x (rest n l) = hasno x l := by
  unfold has hasno
  by_cases c : x ∈ l
  · rw [decide_eq_true c, decide_eq_false fun z => (mem_rest.mp z).2 c]; rfl
  · rw [decide_eq_false c, decide_eq_true (mem_rest.mpr ⟨hx, c⟩)]; rfl
theorem hasno_rest {n x : Int} (l : List Int) (hx : 0 ≤ x ∧ x < n) : hasno x (rest n l) = has x l := by
  have z := has_rest l hx
  unfold has hasno at *
  rw [z]
  cases decide (x ∈ l) <;> rfl
end LW

set_option Elab.async false
set_option maxRecDepth 100000
set_option linter.all false
set_option maxHeartbeats 2000000
namespace LW
open PySem PySem.Spec PyProof.Rows L2 PD
/-- an offer as data -/
def ofr (n : Int) (ls : List (List Int)) : PyData := .tuple [.int n, tt ls]
/-- rows that an offer can have -/
structure Good (n : Int) (ls : List (List Int)) : Prop where
  asc : ∀ l ∈ ls, Asc n l
  asd : Asd ls
  ne : ls ≠ []
  len : ls.length ≤ 1000
theorem Good.less {n x : Int} {p : List Int → Bool} {ls : List (List Int)} (g : Good n ls) (hx : 0 ≤ x ∧ x < n) (hp : ∀ l k, p l = p k → (x ∈ l ↔ x ∈ k)) : Good (n - 1) (less p x ls) :=
  ⟨less_asc g.asc hx, less_asd g.asc g.asd.nodup hp, less_ne g.ne, Nat.le_trans less_len g.len⟩
theorem has_iff (x : Int) : ∀ l k, has x l = has x k → (x ∈ l ↔ x ∈ k) := fun l k h => by
  unfold has at h
  by_cases c : x ∈ k
  · rw [decide_eq_true c] at h
    exact ⟨fun _ => c, fun _ => of_decide_eq_true h⟩
  · rw [decide_eq_false c] at h
    exact ⟨fun z => absurd z (of_decide_eq_false h), fun z => absurd z c⟩
theorem hasno_iff (x : Int) : ∀ l k, hasno x l = hasno x k → (x ∈ l ↔ x ∈ k) := fun l k h => by
  refine has_iff x l k ?_
  unfold hasno at h
  unfold has
  cases a : decide (x ∈ l) <;> cases b : decide (x ∈ k) <;> simp_all
theorem Good.opp {n : Int} {ls : List (List Int)} (g : Good n ls) : Good n (opp n ls) := by
  refine ⟨fun l hl => ?_, asd_sortT ?_, fun z => ?_, ?_⟩
  · obtain ⟨k, _, rfl⟩ := List.mem_map.mp (mem_sortT.mp hl)
    exact rest_asc n k
  · refine List.pairwise_map.mpr (g.asd.nodup.imp_of_mem fun {a b} ha hb ne e => ne ?_)
    rw [← rest_rest (g.asc a ha), ← rest_rest (g.asc b hb), e]
  · have : (LW.opp n ls).length = 0 := by rw [z]; rfl
    unfold LW.opp at this
    rw [(sortT_perm _).length_eq, List.length_map] at this
    exact g.ne (List.eq_nil_of_length_eq_zero this)
  · unfold LW.opp
    rw [(sortT_perm _).length_eq, List.length_map]
    exact g.len
theorem v_some {n : Int} {ls : List (List Int)} (g : Good n ls) (hn : n ≤ 1000) : m_law_is_some_offer [ofr n ls, .int n] = .ok (.bool true) := v_is_some_offer n ls g.asc hn g.asd g.ne g.len
theorem shp_ofr (n : Int) (ls : List (List Int)) : shp (ofr n ls) = true := shp_of (n := 3) (dep_tuple fun y hy => by
  simp only [List.mem_cons, List.not_mem_nil, or_false] at hy
  rcases hy with rfl | rfl
  · exact ⟨rfl, Nat.zero_le _⟩
  · exact dep_tt ls)
theorem eqv_ofr (n : Int) (ls : List (List Int)) : PyData.eqv (ofr n ls) (ofr n ls) = true := by
  unfold ofr
  rw [PyData.eqv, PyData.eqvAll, PyData.eqvAll, PyData.eqvAll, eqv_int, eqv_tt]
  simp
theorem oNe_ofr (n : Int) (ls : List (List Int)) : oNe (ofr n ls) (ofr n ls) = .ok (.bool false) := by
  unfold oNe
  rw [if_pos ⟨shp_ofr n ls, shp_ofr n ls⟩, eqv_ofr]
  rfl
theorem oEq_ofr (n : Int) (ls : List (List Int)) : oEq (ofr n ls) (ofr n ls) = .ok (.bool true) := by
  unfold oEq
  rw [if_pos ⟨shp_ofr n ls, shp_ofr n ls⟩, eqv_ofr]
theorem v_mirrored (n : Int) (ls : List (List Int)) (g : Good n ls) (h0 : 0 ≤ n) (h1 : n ≤ 1000) : m_law_mirrored [ofr n ls] = .ok (.bool true) := by
  show endR (g_law_mirrored [some (.d (ofr n ls)), none, none, none, none]) = _
  have j0 : oIx (ofr n ls) (.int 0) = .ok (.int n) := rfl
  have eo : m_opposite [ofr n ls] = .ok (ofr n (opp n ls)) := v_oppositeL n ls h0 h1
  have key := forGo_inv (i := 3) (g := b_law_mirrored_1) (enc := PyData.int) (fun xs ρ => ∃ o3 o4, ρ = [some (.d (ofr n ls)), some (.d (.int n)), some (.d (ofr n (opp n ls))), o3, o4] ∧ ∀ k ∈ xs, 0 ≤ k ∧ k < n) (by
    rintro k xs ρ ⟨o3, o4, rfl, hk⟩
    have kk := hk k List.mem_cons_self
    have e1 : m_without [ofr n ls, .int k] = .ok (ofr (n - 1) (less (hasno k) k ls)) := v_withoutL n ls k
    have e2 : m_holding [ofr n ls, .int k] = .ok (ofr (n - 1) (less (has k) k ls)) := v_holdingL n ls k
    have e3 : m_without [ofr n (opp n ls), .int k] = .ok (ofr (n - 1) (less (hasno k) k (opp n ls))) := v_withoutL n _ k
    have e4 : m_holding [ofr n (opp n ls), .int k] = .ok (ofr (n - 1) (less (has k) k (opp n ls))) := v_holdingL n _ k
    have e5 : m_opposite [ofr (n - 1) (less (hasno k) k ls)] = .ok (ofr (n - 1) (opp (n - 1) (less (hasno k) k ls))) := v_oppositeL _ _ (by omega) (by omega)
    have e6 : m_opposite [ofr (n - 1) (less (has k) k ls)] = .ok (ofr (n - 1) (opp (n - 1) (less (has k) k ls))) := v_oppositeL _ _ (by omega) (by omega)
    rw [opp_less g.asc kk fun l _ => has_rest l kk] at e5
    rw [opp_less g.asc kk fun l _ => hasno_rest l kk] at e6
    have s1 := v_some (g.opp.less (p := has k) kk (has_iff k)) (by omega)
    have s2 := v_some (g.opp.less (p := hasno k) kk (hasno_iff k)) (by omega)
    refine ⟨[some (.d (ofr n ls)), some (.d (.int n)), some (.d (ofr n (opp n ls))), some (.d (.int k)), some (.d (ofr (n - 1) (less (hasno k) k (opp n ls))))], ?_, _, _, rfl, fun y hy => hk y (List.mem_cons_of_mem _ hy)⟩
    simp [b_law_mirrored_1, e1, e2, e3, e4, e5, e6, s1, s2, oNe_ofr])
  obtain ⟨ρ', e, o3, o4, rfl, _⟩ := key (rangeI 0 n) [some (.d (ofr n ls)), some (.d (.int n)), some (.d (ofr n (opp n ls))), none, none] ⟨none, none, rfl, fun k hk => mem_rangeI.mp hk⟩
  simp [g_law_mirrored, j0, eo, rngA1_ok (n := n) (by omega) (by omega), e]
end LW

set_option Elab.async false
set_option maxRecDepth 100000
set_option linter.all false
set_option maxHeartbeats 2000000
namespace LW
open PySem PySem.Spec PyProof.Rows L2 PD
theorem sortI_eq (l : List Int) : sortI l = l.mergeSort fun a b => decide (a ≤ b) := by
  have h : sortD (l.map PyData.int) = (l.mergeSort fun a b => decide (a ≤ b)).map PyData.int := by
    unfold sortD
    refine (List.map_mergeSort (f := PyData.int) (r := fun a b => decide (a ≤ b)) (s := PySem.W.dataLe false id) (l := l) fun a _ b _ => ?_).symm
    show decide (a ≤ b) = !(PySem.W.dataLt (.int b) (.int a))
    rw [PySem.W.dataLt_int, PySem.W.not_lt_int]
  have e := (sortD_ints l).1
  rw [h] at e
  have inj : ∀ {a b : List Int}, a.map PyData.int = b.map PyData.int → a = b := fun {a b} z => by
    induction a generalizing b with
    | nil => cases b with
      | nil => rfl
      | cons y b => cases z
    | cons x a ih => cases b with
      | nil => cases z
      | cons y b =>
        rw [List.map_cons, List.map_cons] at z
        obtain ⟨z1, z2⟩ := List.cons.inj z
        rw [PyData.int.inj z1, ih z2]
  exact (inj e).symm
theorem sortI_le (l : List Int) : (sortI l).Pairwise (· ≤ ·) := by
  rw [sortI_eq]
  exact (List.pairwise_mergeSort (le := fun a b : Int => decide (a ≤ b)) (fun a b c h1 h2 => by simp only [decide_eq_true_eq] at *; omega) (fun a b => by simp only [Bool.or_eq_true, decide_eq_true_eq]; omega) l).imp fun h => of_decide_eq_true h
theorem sortI_asc {n : Int} {l : List Int} (nd : l.Nodup) (h : ∀ x ∈ l, 0 ≤ x ∧ x < n) : Asc n (sortI l) := by
  refine ⟨((sortI_le l).and ((sortD_ints l).2.nodup_iff.mpr nd)).imp fun {a b} ⟨h1, h2⟩ => by omega, fun x hx => h x (mem_sortI.mp hx)⟩
theorem Asc.nodup {n : Int} {l : List Int} (h : Asc n l) : l.Nodup := h.1.imp fun {a b} z e => by omega
theorem mem_exch {l : List Int} {x t y : Int} : y ∈ exch l x t ↔ (y ∈ l ∧ ¬ y = x) ∨ y = t := by
  unfold exch
  rw [mem_sortI, List.mem_append, List.mem_filter, List.mem_singleton]
  simp
theorem exch_asc {n x t : Int} {l : List Int} (h : Asc n l) (ht : ¬ t ∈ l) (b : 0 ≤ t ∧ t < n) : Asc n (exch l x t) := by
  unfold exch
  refine sortI_asc ?_ fun y hy => ?_
  · rw [List.nodup_append]
    refine ⟨h.nodup.filter _, by simp, fun a ha c hc e => ?_⟩
    rw [List.mem_singleton.mp hc] at e
    exact ht (e ▸ (List.mem_filter.mp ha).1)
  · rcases List.mem_append.mp hy with z | z
    · exact h.2 y (List.mem_filter.mp z).1
    · rw [List.mem_singleton.mp z]; exact b
/-- all exchanges are there -/
def Exc (ls : List (List Int)) : Prop := ∀ l ∈ ls, ∀ x ∈ l, ∀ o ∈ ls, ¬ x ∈ o → ∃ t ∈ o, ¬ t ∈ l ∧ exch l x t ∈ ls
theorem faultD_none {ls : List (List Int)} (h : Exc ls) : faultD ls = .none := by
  rcases faultD_is ls with e | ⟨l, x, o, hl, ho, e⟩
  · exact e
  · exfalso
    unfold faultD at e
    cases q : ls.findSome? (findL ls) with
    | none => rw [q] at e; cases e
    | some d =>
      obtain ⟨l, hl, e1⟩ := List.exists_of_findSome?_eq_some q
      obtain ⟨x, hx, e2⟩ := List.exists_of_findSome?_eq_some e1
      obtain ⟨o, ho, e3⟩ := List.exists_of_findSome?_eq_some e2
      unfold findO at e3
      split at e3
      · rename_i b
        obtain ⟨t, ht, hn, hi⟩ := h l hl x hx o ho b.1
        exact b.2 t ht hn hi
      · cases e3
/-- y's place behind the closing of a gap at x -/
def shut (x y : Int) : Int := if x < y then y - 1 else y
theorem shut_mem {x y : Int} {l : List Int} (h : ¬ y = x) : shut x y ∈ gone x l ↔ y ∈ l := by
  rw [mem_gone]
  unfold shut
  by_cases c : x < y
  · rw [if_pos c, if_neg (by omega), show y - 1 + 1 = y by omega]
  · rw [if_neg c, if_pos (by omega)]
theorem gone_exch {n x a b : Int} {l : List Int} (h : Asc n l) (hx : 0 ≤ x ∧ x < n) (ha : ¬ a = x) (hb : ¬ b = x) (hbl : ¬ b ∈ l) (hbn : 0 ≤ b ∧ b < n) : gone x (exch l a b) = exch (gone x l) (shut x a) (shut x b) := by
  have g := gone_asc h hx
  have c : ¬ shut x b ∈ gone x l := fun z => hbl ((shut_mem hb).mp z)
  have d : 0 ≤ shut x b ∧ shut x b < n - 1 := by
    unfold shut
    split <;> omega
  refine asc_ext (gone_asc (exch_asc h hbl hbn) hx).1 (exch_asc g c d).1 fun y => ?_
  rw [mem_gone, mem_exch (l := gone x l), mem_gone, mem_exch, mem_exch]
  unfold shut
  by_cases e : y < x
  · rw [if_pos e, if_pos e]
    have : y = a ↔ y = if x < a then a - 1 else a := by split <;> omega
    have : y = b ↔ y = if x < b then b - 1 else b := by split <;> omega
    simp_all
  · rw [if_neg e, if_neg e]
    have : y + 1 = a ↔ y = if x < a then a - 1 else a := by split <;> omega
    have : y + 1 = b ↔ y = if x < b then b - 1 else b := by split <;> omega
    simp_all
end LW

set_option Elab.async false
set_option maxRecDepth 100000
set_option linter.all false
set_option maxHeartbeats 2000000
namespace LW
open PySem PySem.Spec PyProof.Rows L2 PD
theorem gone_shut {x y : Int} {l : List Int} : y ∈ gone x l ↔ ∃ a, a ∈ l ∧ ¬ a = x ∧ shut x a = y := by
  unfold gone
  rw [List.mem_map]
  constructor
  · rintro ⟨a, ha, e⟩
    obtain ⟨h1, h2⟩ := List.mem_filter.mp ha
    exact ⟨a, h1, by simpa using h2, e⟩
  · rintro ⟨a, h1, h2, e⟩
    exact ⟨a, List.mem_filter.mpr ⟨h1, by simpa using h2⟩, e⟩
theorem orAll_in {ls : List (List Int)} {p : List Int → Bool} {l m : List Int} (hl : l ∈ orAll ls (ls.filter p)) (hm : m ∈ ls) (e : p m = p l) : m ∈ orAll ls (ls.filter p) := by
  unfold orAll at *
  split at hl
  · rename_i c
    rw [if_pos c]
    exact hm
  · rename_i c
    rw [if_neg c]
    exact List.mem_filter.mpr ⟨hm, e.trans (List.mem_filter.mp hl).2⟩
theorem mem_less {x : Int} {p : List Int → Bool} {ls : List (List Int)} {l : List Int} : l ∈ less p x ls ↔ ∃ k ∈ orAll ls (ls.filter p), gone x k = l := by
  unfold less
  rw [mem_sortT, List.mem_map]
/-- p looks at x alone -/
def Of (x : Int) (p : List Int → Bool) : Prop := ∀ l k, p l = p k ↔ (x ∈ l ↔ x ∈ k)
theorem of_has (x : Int) : Of x (has x) := fun l k => ⟨has_iff x l k, fun h => by
  unfold has
  by_cases c : x ∈ k
  · rw [decide_eq_true c, decide_eq_true (h.mpr c)]
  · rw [decide_eq_false c, decide_eq_false fun z => c (h.mp z)]⟩
theorem of_hasno (x : Int) : Of x (hasno x) := fun l k => ⟨hasno_iff x l k, fun h => by
  have := (of_has x l k).mpr h
  unfold has at this
  unfold hasno
  rw [this]⟩
theorem less_exc {n x : Int} {p : List Int → Bool} {ls : List (List Int)} (g : Good n ls) (hx : 0 ≤ x ∧ x < n) (hp : Of x p) (h : Exc ls) : Exc (less p x ls) := by
  intro l' hl' a' ha' o' ho' na
  obtain ⟨l, hl, rfl⟩ := mem_less.mp hl'
  obtain ⟨o, ho, rfl⟩ := mem_less.mp ho'
  obtain ⟨a, hal, hax, rfl⟩ := gone_shut.mp ha'
  have nao : ¬ a ∈ o := fun z => na ((shut_mem hax).mpr z)
  obtain ⟨t, hto, htl, hi⟩ := h l (orAll_mem hl) a hal o (orAll_mem ho) nao
  have same := (hp l o).mp (orAll_same hl ho)
  have htx : ¬ t = x := fun z => htl (z ▸ same.mpr (z ▸ hto))
  have al := g.asc l (orAll_mem hl)
  refine ⟨shut x t, (shut_mem htx).mpr hto, fun z => htl ((shut_mem htx).mp z), ?_⟩
  rw [← gone_exch al hx hax htx htl ((g.asc o (orAll_mem ho)).2 t hto)]
  refine mem_less.mpr ⟨_, orAll_in hl hi ((hp _ _).mpr ?_), rfl⟩
  rw [mem_exch]
  constructor
  · rintro (z | z)
    · exact z.1
    · exact absurd z.symm htx
  · intro z
    exact .inl ⟨z, fun e => hax e.symm⟩
theorem gone_len {x : Int} : ∀ {l : List Int}, l.Nodup → (gone x l).length = if x ∈ l then l.length - 1 else l.length := by
  intro l nd
  unfold gone
  rw [List.length_map]
  induction l with
  | nil => rfl
  | cons y l ih =>
    obtain ⟨h1, h2⟩ := List.nodup_cons.mp nd
    by_cases c : y = x
    · subst c
      rw [List.filter_cons_of_neg (by simp), ih h2, if_neg h1, if_pos List.mem_cons_self]
      rfl
    · rw [List.filter_cons_of_pos (by simpa using c), List.length_cons, ih h2]
      by_cases d : x ∈ l
      · rw [if_pos d, if_pos (List.mem_cons_of_mem _ d), List.length_cons]
        have := List.length_pos_of_mem d
        omega
      · rw [if_neg d, if_neg fun z => by
          rcases List.mem_cons.mp z with z | z
          · exact c z.symm
          · exact d z]
        rfl
/-- all rows have the same number of things -/
def Eqs (ls : List (List Int)) : Prop := ∀ l ∈ ls, ∀ k ∈ ls, l.length = k.length
theorem less_eqs {n x : Int} {p : List Int → Bool} {ls : List (List Int)} (g : Good n ls) (hp : Of x p) (h : Eqs ls) : Eqs (less p x ls) := by
  intro l' hl' k' hk'
  obtain ⟨l, hl, rfl⟩ := mem_less.mp hl'
  obtain ⟨k, hk, rfl⟩ := mem_less.mp hk'
  have same := (hp l k).mp (orAll_same hl hk)
  have e := h l (orAll_mem hl) k (orAll_mem hk)
  rw [gone_len (g.asc l (orAll_mem hl)).nodup, gone_len (g.asc k (orAll_mem hk)).nodup, e]
  by_cases c : x ∈ k
  · rw [if_pos c, if_pos (same.mpr c)]
  · rw [if_neg c, if_neg fun z => c (same.mp z)]
/-- lots of which all exchanges are there, all of one size -/
structure Smooth (n : Int) (ls : List (List Int)) : Prop where
  good : Good n ls
  exc : Exc ls
  eqs : Eqs ls
theorem Smooth.less {n x : Int} {p : List Int → Bool} {ls : List (List Int)} (s : Smooth n ls) (hx : 0 ≤ x ∧ x < n) (hp : Of x p) : Smooth (n - 1) (less p x ls) :=
  ⟨s.good.less hx fun l k => (hp l k).mp, less_exc s.good hx hp s.exc, less_eqs s.good hp s.eqs⟩
theorem Smooth.tells {n : Int} {ls : List (List Int)} (s : Smooth n ls) (h0 : 0 ≤ n) (h1 : n ≤ 1000) : m_law_fault [tt ls] = .ok .none ∧ m_is_smooth [ofr n ls] = .ok (.bool true) := by
  have e := faultD_none s.exc
  have a := v_law_fault ls fun l hl => by have := (s.good.asc l hl).len; omega
  have b := v_is_smooth n ls h0 h1 s.good.asc
  rw [e] at a b
  exact ⟨a, b⟩
end LW

set_option Elab.async false
set_option maxRecDepth 100000
set_option linter.all false
set_option maxHeartbeats 2000000
namespace LW
open PySem PySem.Spec PyProof.Rows L2 PD
theorem mem_opened {x y : Int} {row : List Int} : y ∈ opened x row ↔ ¬ y = x ∧ shut x y ∈ row := by
  unfold opened shut
  rw [List.mem_append, List.mem_map, List.mem_filter]
  constructor
  · rintro (⟨h1, h2⟩ | ⟨z, hz, e⟩)
    · have := of_decide_eq_true h2
      refine ⟨by omega, ?_⟩
      rw [if_neg (by omega)]
      exact h1
    · obtain ⟨h1, h2⟩ := List.mem_filter.mp hz
      have := of_decide_eq_true h2
      refine ⟨by omega, ?_⟩
      rw [if_pos (by omega), show y - 1 = z by omega]
      exact h1
  · rintro ⟨h1, h2⟩
    by_cases c : x < y
    · rw [if_pos c] at h2
      exact .inr ⟨y - 1, List.mem_filter.mpr ⟨h2, decide_eq_true (by omega)⟩, by omega⟩
    · rw [if_neg c] at h2
      exact .inl ⟨h2, decide_eq_true (by omega)⟩
/-- how many of these things a lot has -/
def cnt (A l : List Int) : Nat := (l.filter fun y => decide (y ∈ A)).length
theorem cnt_gone {x : Int} {row l : List Int} : cnt row (gone x l) = cnt (opened x row) l := by
  unfold cnt gone
  rw [List.filter_map, List.length_map, List.filter_filter]
  congr 1
  refine List.filter_congr fun y _ => ?_
  show (decide (shut x y ∈ row) && !(y == x)) = decide (y ∈ opened x row)
  by_cases c : y = x
  · rw [decide_eq_false fun z => (mem_opened.mp z).1 c]
    simp [c]
  · by_cases d : shut x y ∈ row
    · rw [decide_eq_true d, decide_eq_true (mem_opened.mpr ⟨c, d⟩)]
      simp [c]
    · rw [decide_eq_false d, decide_eq_false fun z => d (mem_opened.mp z).2]
      rfl
theorem sub_len {l k : List Int} (h : l.Pairwise (· < ·)) (h' : k.Pairwise (· < ·)) (s : ∀ y ∈ l, y ∈ k) : l.length ≤ k.length := (asc_sub h h' s).length_le
theorem cnt_mono {n m : Int} {A l k : List Int} (h : Asc n l) (h' : Asc m k) (s : ∀ y ∈ l, y ∈ A → y ∈ k) : cnt A l ≤ cnt A k := by
  refine sub_len (h.1.filter _) (h'.1.filter _) fun y hy => ?_
  obtain ⟨h1, h2⟩ := List.mem_filter.mp hy
  exact List.mem_filter.mpr ⟨s y h1 (of_decide_eq_true h2), h2⟩
/-- from a lot with x: one with x whose other things are in l -/
theorem near {n x : Int} {ls : List (List Int)} {l : List Int} (s : Smooth n ls) (hl : l ∈ ls) (hxl : ¬ x ∈ l) : ∀ (m : Nat) (k : List Int), k ∈ ls → x ∈ k → (k.filter fun y => !decide (y ∈ l)).length ≤ m → ∃ k' ∈ ls, x ∈ k' ∧ ∀ y ∈ k', ¬ y = x → y ∈ l
  | 0, k, hk, hxk, hm => by
    have e := List.eq_nil_of_length_eq_zero (Nat.le_zero.mp hm)
    have : x ∈ k.filter fun y => !decide (y ∈ l) := List.mem_filter.mpr ⟨hxk, by simpa using hxl⟩
    rw [e] at this
    cases this
  | m + 1, k, hk, hxk, hm => by
    by_cases c : ∀ y ∈ k, ¬ y = x → y ∈ l
    · exact ⟨k, hk, hxk, c⟩
    · obtain ⟨z, hz⟩ := Classical.not_forall.mp c
      obtain ⟨z1, hz⟩ := Classical.not_imp.mp hz
      obtain ⟨z2, z3⟩ := Classical.not_imp.mp hz
      obtain ⟨t, t1, t2, t3⟩ := s.exc k hk z z1 l hl z3
      refine near s hl hxl m (exch k z t) t3 (mem_exch.mpr (.inl ⟨hxk, fun e => z2 e.symm⟩)) ?_
      have ka := s.good.asc k hk
      have ea := s.good.asc _ t3
      -- z is gone from the outer part, nothing comes into it
      have sub : ((exch k z t).filter fun y => !decide (y ∈ l)).length ≤ ((k.filter fun y => !decide (y ∈ l)).filter fun y => !(y == z)).length := by
        refine sub_len (ea.1.filter _) ((ka.1.filter _).filter _) fun y hy => ?_
        obtain ⟨y1, y2⟩ := List.mem_filter.mp hy
        have y3 : ¬ y ∈ l := by simpa using y2
        rcases mem_exch.mp y1 with q | q
        · exact List.mem_filter.mpr ⟨List.mem_filter.mpr ⟨q.1, y2⟩, by simpa using q.2⟩
        · exact absurd (q ▸ t1) y3
      have one := gone_len (x := z) (l := k.filter fun y => !decide (y ∈ l)) (ka.nodup.filter _)
      unfold gone at one
      rw [List.length_map, if_pos (List.mem_filter.mpr ⟨z1, by simpa using z3⟩)] at one
      omega
theorem cnt_near {n x : Int} {ls : List (List Int)} {l k A : List Int} (s : Smooth n ls) (hl : l ∈ ls) (hk : k ∈ ls) (hxk : x ∈ k) (hxl : ¬ x ∈ l) (h : ∀ y ∈ k, ¬ y = x → y ∈ l) : cnt A l ≤ cnt A k + 1 := by
  have la := s.good.asc l hl
  have ka := s.good.asc k hk
  have e := s.eqs l hl k hk
  -- l within k, l outside k
  have split : ∀ (m : List Int) (p : Int → Bool), m.length = (m.filter p).length + (m.filter fun y => !p y).length := fun m p => by
    induction m with
    | nil => rfl
    | cons y m ih =>
      cases q : p y with
      | true => rw [List.filter_cons_of_pos q, List.filter_cons_of_neg (by simp [q]), List.length_cons, List.length_cons]; omega
      | false => rw [List.filter_cons_of_neg (by simp [q]), List.filter_cons_of_pos (by simp [q]), List.length_cons, List.length_cons]; omega
  have a := split l fun y => decide (y ∈ k)
  have b : k.length ≤ (l.filter fun y => decide (y ∈ k)).length + 1 := by
    have one := gone_len (x := x) ka.nodup
    unfold gone at one
    rw [List.length_map, if_pos hxk] at one
    have : (k.filter fun y => !(y == x)).length ≤ (l.filter fun y => decide (y ∈ k)).length := sub_len (ka.1.filter _) (la.1.filter _) fun y hy => by
      obtain ⟨y1, y2⟩ := List.mem_filter.mp hy
      exact List.mem_filter.mpr ⟨h y y1 (by simpa using y2), decide_eq_true y1⟩
    omega
  have c := split (l.filter fun y => decide (y ∈ A)) fun y => decide (y ∈ k)
  have d : ((l.filter fun y => decide (y ∈ A)).filter fun y => decide (y ∈ k)).length ≤ cnt A k := sub_len ((la.1.filter _).filter _) (ka.1.filter _) fun y hy => by
    obtain ⟨y1, y2⟩ := List.mem_filter.mp hy
    exact List.mem_filter.mpr ⟨of_decide_eq_true y2, (List.mem_filter.mp y1).2⟩
  have f : ((l.filter fun y => decide (y ∈ A)).filter fun y => !decide (y ∈ k)).length ≤ (l.filter fun y => !decide (y ∈ k)).length := sub_len ((la.1.filter _).filter _) (la.1.filter _) fun y hy => by
    obtain ⟨y1, y2⟩ := List.mem_filter.mp hy
    exact List.mem_filter.mpr ⟨(List.mem_filter.mp y1).1, y2⟩
  unfold cnt at d ⊢
  omega
end LW

set_option Elab.async false
set_option maxRecDepth 100000
set_option linter.all false
set_option maxHeartbeats 2000000
namespace LW
open PySem PySem.Spec PyProof.Rows L2 PD
theorem le_rank {A l : List Int} {ls : List (List Int)} (h : l ∈ ls) : (cnt A l : Int) ≤ rank A ls := le_maxI (List.mem_map.mpr ⟨l, h, rfl⟩)
theorem rank_at {A : List Int} {ls : List (List Int)} (h : ls ≠ []) : ∃ l ∈ ls, rank A ls = (cnt A l : Int) := by
  have m : rank A ls ∈ ls.map fun l => (cnt A l : Int) := maxI_mem (by rw [List.length_map]; exact List.length_pos_iff.mpr h)
  obtain ⟨l, hl, e⟩ := List.mem_map.mp m
  exact ⟨l, hl, e.symm⟩
theorem orAll_of {ls : List (List Int)} {p : List Int → Bool} {o : List Int} (ho : o ∈ ls) (hp : p o = true) {l : List Int} : l ∈ orAll ls (ls.filter p) ↔ l ∈ ls ∧ p l = true := by
  have z : ¬ (ls.filter p).length = 0 := fun z => by
    have : o ∈ ls.filter p := List.mem_filter.mpr ⟨ho, hp⟩
    rw [List.eq_nil_of_length_eq_zero z] at this
    cases this
  unfold orAll
  rw [if_neg z, List.mem_filter]
theorem orAll_no {ls : List (List Int)} {p : List Int → Bool} (h : ∀ o ∈ ls, p o = false) : orAll ls (ls.filter p) = ls := by
  have z : ls.filter p = [] := List.filter_eq_nil_iff.mpr fun o ho q => by rw [h o ho] at q; cases q
  unfold orAll
  rw [z]
  rfl
theorem has_true {x : Int} {l : List Int} : has x l = true ↔ x ∈ l := by unfold has; exact decide_eq_true_iff
theorem hasno_true {x : Int} {l : List Int} : hasno x l = true ↔ ¬ x ∈ l := by unfold hasno; simp
/-- the rank of a set in the offer without x -/
theorem rank_without {n x : Int} {ls : List (List Int)} {row : List Int} (s : Smooth n ls) : rank row (less (hasno x) x ls) = rank (opened x row) ls := by
  have hne := less_ne (x := x) (p := hasno x) s.good.ne
  have hxA : ¬ x ∈ opened x row := fun z => (mem_opened.mp z).1 rfl
  obtain ⟨l', hl', e⟩ := rank_at (A := row) hne
  obtain ⟨l, hl, rfl⟩ := mem_less.mp hl'
  rw [cnt_gone] at e
  have up := le_rank (A := opened x row) (orAll_mem hl)
  obtain ⟨o, ho, f⟩ := rank_at (A := opened x row) s.good.ne
  have down : rank (opened x row) ls ≤ rank row (less (hasno x) x ls) := by
    rw [f]
    have fin : ∀ k ∈ orAll ls (ls.filter (hasno x)), cnt (opened x row) o ≤ cnt (opened x row) k → (cnt (opened x row) o : Int) ≤ rank row (less (hasno x) x ls) := fun k hk q => by
      have := le_rank (A := row) (mem_less (x := x).mpr ⟨k, hk, rfl⟩)
      rw [cnt_gone] at this
      omega
    by_cases c : ∃ k ∈ ls, hasno x k = true
    · obtain ⟨k, hk, hxk⟩ := c
      by_cases d : x ∈ o
      · obtain ⟨t, t1, t2, t3⟩ := s.exc o ho x d k hk (hasno_true.mp hxk)
        refine fin (exch o x t) ((orAll_of hk hxk).mpr ⟨t3, hasno_true.mpr fun z => ?_⟩) (cnt_mono (s.good.asc o ho) (s.good.asc _ t3) fun y hy hA => mem_exch.mpr (.inl ⟨hy, fun z => hxA (z ▸ hA)⟩))
        rcases mem_exch.mp z with z | z
        · exact z.2 rfl
        · exact t2 (z ▸ d)
      · exact fin o ((orAll_of hk hxk).mpr ⟨ho, hasno_true.mpr d⟩) (Nat.le_refl _)
    · refine fin o ?_ (Nat.le_refl _)
      rw [orAll_no fun k hk => by
        cases q : hasno x k with
        | false => rfl
        | true => exact absurd ⟨k, hk, q⟩ c]
      exact ho
  omega
theorem cnt_plus {x : Int} {A l : List Int} (hx : ¬ x ∈ A) (nd : l.Nodup) : cnt (A ++ [x]) l = cnt A l + if x ∈ l then 1 else 0 := by
  unfold cnt
  induction l with
  | nil => rfl
  | cons y l ih =>
    obtain ⟨h1, h2⟩ := List.nodup_cons.mp nd
    have ih := ih h2
    by_cases c : y = x
    · subst c
      rw [List.filter_cons_of_pos (by simp), List.filter_cons_of_neg (by simpa using hx), List.length_cons, ih, if_neg h1, if_pos List.mem_cons_self]
    · have e : (if x ∈ y :: l then 1 else 0) = if x ∈ l then 1 else 0 := by
        by_cases d : x ∈ l
        · rw [if_pos d, if_pos (List.mem_cons_of_mem _ d)]
        · rw [if_neg d, if_neg fun z => (List.mem_cons.mp z).elim (fun z => c z.symm) d]
      rw [e]
      by_cases d : y ∈ A
      · rw [List.filter_cons_of_pos (by simp [d]), List.filter_cons_of_pos (by simpa using d), List.length_cons, List.length_cons, ih]
        omega
      · rw [List.filter_cons_of_neg (by simp [d, c]), List.filter_cons_of_neg (by simpa using d), ih]
theorem cnt_one {x : Int} {l : List Int} (nd : l.Nodup) : cnt [x] l = if x ∈ l then 1 else 0 := by
  have := cnt_plus (x := x) (A := []) (by simp) nd
  rw [List.nil_append] at this
  rw [this]
  have z : cnt [] l = 0 := by
    unfold cnt
    rw [List.filter_eq_nil_iff.mpr (by simp)]
    rfl
  omega
/-- the rank of a set in the offer holding x -/
theorem rank_holding {n x : Int} {ls : List (List Int)} {row : List Int} (s : Smooth n ls) : rank row (less (has x) x ls) = rank (opened x row ++ [x]) ls - rank [x] ls := by
  have hne := less_ne (x := x) (p := has x) s.good.ne
  have hxA : ¬ x ∈ opened x row := fun z => (mem_opened.mp z).1 rfl
  obtain ⟨l', hl', e⟩ := rank_at (A := row) hne
  obtain ⟨l, hl, rfl⟩ := mem_less.mp hl'
  rw [cnt_gone] at e
  have nd : ∀ k ∈ ls, k.Nodup := fun k hk => (s.good.asc k hk).nodup
  obtain ⟨o, ho, f⟩ := rank_at (A := opened x row ++ [x]) s.good.ne
  obtain ⟨q, hq, r⟩ := rank_at (A := [x]) s.good.ne
  rw [cnt_plus hxA (nd o ho)] at f
  rw [cnt_one (nd q hq)] at r
  have up := le_rank (A := opened x row ++ [x]) (orAll_mem hl)
  rw [cnt_plus hxA (nd l (orAll_mem hl))] at up
  have low : ∀ k ∈ orAll ls (ls.filter (has x)), (cnt (opened x row) k : Int) ≤ rank row (less (has x) x ls) := fun k hk => by
    have := le_rank (A := row) (mem_less (x := x).mpr ⟨k, hk, rfl⟩)
    rwa [cnt_gone] at this
  by_cases c : ∃ k ∈ ls, has x k = true
  · obtain ⟨k, hk, hxk⟩ := c
    have one := le_rank (A := [x]) hk
    rw [cnt_one (nd k hk), if_pos (has_true.mp hxk)] at one
    have hxl := has_true.mp ((orAll_of hk hxk).mp hl).2
    rw [if_pos hxl] at up
    have r1 : rank [x] ls = 1 := by
      rw [r]
      rw [r] at one
      split at one <;> simp_all
    by_cases d : x ∈ o
    · have := low o ((orAll_of hk hxk).mpr ⟨ho, has_true.mpr d⟩)
      rw [if_pos d] at f
      omega
    · obtain ⟨k', k1, k2, k3⟩ := near s ho d _ k hk (has_true.mp hxk) (Nat.le_refl _)
      have := low k' ((orAll_of hk hxk).mpr ⟨k1, has_true.mpr k2⟩)
      have := cnt_near (A := opened x row) s ho k1 k2 d k3
      rw [if_neg d] at f
      omega
  · have no : ∀ k ∈ ls, ¬ x ∈ k := fun k hk z => c ⟨k, hk, has_true.mpr z⟩
    have all := orAll_no (ls := ls) (p := has x) fun k hk => by
      cases q : has x k with
      | false => rfl
      | true => exact absurd ⟨k, hk, q⟩ c
    have := low o (by rw [all]; exact ho)
    rw [if_neg (no o ho)] at f
    rw [if_neg (no q hq)] at r
    rw [if_neg (no l (orAll_mem hl))] at up
    omega
end LW

set_option Elab.async false
set_option maxRecDepth 100000
set_option linter.all false
set_option maxHeartbeats 2000000
namespace LW
open PySem PySem.Spec PyProof.Rows L2 PD
theorem v_ranks_fit (n x : Int) (ls : List (List Int)) (s : Smooth n ls) (hx : 0 ≤ x ∧ x < n) (hn : n ≤ 12) :
    m_law_ranks_fit [ofr n ls, .int x, ofr (n - 1) (less (hasno x) x ls), ofr (n - 1) (less (has x) x ls)] = .ok (.bool true) := by
  show endR (g_law_ranks_fit [some (.d (ofr n ls)), some (.d (.int x)), some (.d (ofr (n - 1) (less (hasno x) x ls))), some (.d (ofr (n - 1) (less (has x) x ls))), none, none]) = _
  obtain ⟨rows, er, hr, hz⟩ := v_parts (n - 1) (by omega) (by omega)
  have j0 : ∀ m ks, oIx (ofr m ks) (.int 0) = .ok (.int m) := fun _ _ => rfl
  have j1 : ∀ m ks, oIx (ofr m ks) (.int 1) = .ok (tt ks) := fun _ _ => rfl
  have n1 := less_ne (x := x) (p := hasno x) s.good.ne
  have n2 := less_ne (x := x) (p := has x) s.good.ne
  have key := forGo_inv (i := 4) (g := b_law_ranks_fit_1) (enc := tu) (fun xs ρ => ∃ o4 o5, ρ = [some (.d (ofr n ls)), some (.d (.int x)), some (.d (ofr (n - 1) (less (hasno x) x ls))), some (.d (ofr (n - 1) (less (has x) x ls))), o4, o5] ∧ ∀ r ∈ xs, Asc (n - 1) r) (by
    rintro r xs ρ ⟨o4, o5, rfl, hk⟩
    have ra := hk r List.mem_cons_self
    have rl := ra.len
    have e0 := v_opened x r (by omega)
    have e1 := v_rank r _ n1
    have e2 := v_rank r _ n2
    have e3 := v_rank (opened x r) ls s.good.ne
    have e4 := v_rank (opened x r ++ [x]) ls s.good.ne
    have e5 : m_law_rank [tu [x], tt ls] = .ok (.int (rank [x] ls)) := v_rank [x] ls s.good.ne
    have ol : (opened x r).length ≤ 1000 := by
      unfold opened
      rw [List.length_append, List.length_map]
      have a := List.length_filter_le (fun y => decide (y < x)) r
      have b := List.length_filter_le (fun y => decide (x ≤ y)) r
      omega
    have e6 : oAdd (tu (opened x r)) (tu [x]) = .ok (tu (opened x r ++ [x])) := oAdd_tu (a := opened x r) (b := [x]) (by simp; omega)
    rw [rank_without s] at e1
    rw [rank_holding s] at e2
    refine ⟨[some (.d (ofr n ls)), some (.d (.int x)), some (.d (ofr (n - 1) (less (hasno x) x ls))), some (.d (ofr (n - 1) (less (has x) x ls))), some (.d (tu r)), some (.d (tu (opened x r)))], ?_, _, _, rfl, fun y hy => hk y (List.mem_cons_of_mem _ hy)⟩
    simp [b_law_ranks_fit_1, e0, j1, e1, e2, e3, e4, e5, e6])
  obtain ⟨ρ', e, o4, o5, rfl, _⟩ := key rows [some (.d (ofr n ls)), some (.d (.int x)), some (.d (ofr (n - 1) (less (hasno x) x ls))), some (.d (ofr (n - 1) (less (has x) x ls))), none, none] ⟨none, none, rfl, fun r hk => (hr r).mp hk⟩
  simp [g_law_ranks_fit, j0, er, e]
end LW

set_option Elab.async false
set_option maxRecDepth 100000
set_option linter.all false
set_option maxHeartbeats 2000000
namespace LW
open PySem PySem.Spec PyProof.Rows L2 PD
/-- one choice behind the other -/
def sel (p q : List Int → Bool) (ls : List (List Int)) : List (List Int) := orAll (orAll ls (ls.filter p)) ((orAll ls (ls.filter p)).filter q)
theorem mem_less2 {a y : Int} {p q' q : List Int → Bool} {ls : List (List Int)} {z : List Int} (hq : ∀ l, q' (gone a l) = q l) : z ∈ less q' y (less p a ls) ↔ ∃ l, l ∈ sel p q ls ∧ gone y (gone a l) = z := by
  have h : ∀ k, k ∈ orAll (less p a ls) ((less p a ls).filter q') ↔ ∃ l, l ∈ sel p q ls ∧ gone a l = k := fun k => by
    have pm := orAll_perm (sortT_perm ((orAll ls (ls.filter p)).map (gone a))) q'
    rw [orAll_map] at pm
    have e : (orAll ls (ls.filter p)).filter (q' ∘ gone a) = (orAll ls (ls.filter p)).filter q := List.filter_congr fun l _ => hq l
    rw [e] at pm
    rw [show less p a ls = sortT ((orAll ls (ls.filter p)).map (gone a)) from rfl, pm.mem_iff, List.mem_map]
    rfl
  rw [mem_less]
  constructor
  · rintro ⟨k, hk, e⟩
    obtain ⟨l, hl, rfl⟩ := (h k).mp hk
    exact ⟨l, hl, e⟩
  · rintro ⟨l, hl, e⟩
    exact ⟨_, (h _).mpr ⟨l, hl, rfl⟩, e⟩
theorem sel_both {p q : List Int → Bool} {ls : List (List Int)} {o l : List Int} (ho : o ∈ ls) (hp : p o = true) (hq : q o = true) : l ∈ sel p q ls ↔ l ∈ ls ∧ p l = true ∧ q l = true := by
  unfold sel
  rw [orAll_of (o := o) ((orAll_of ho hp).mpr ⟨ho, hp⟩) hq, orAll_of ho hp, and_assoc]
theorem sel_left {p q : List Int → Bool} {ls : List (List Int)} (h : ∀ l ∈ ls, p l = false) : sel p q ls = orAll ls (ls.filter q) := by
  unfold sel
  rw [orAll_no h]
theorem sel_right {p q : List Int → Bool} {ls : List (List Int)} (h : ∀ l ∈ ls, q l = false) : sel p q ls = orAll ls (ls.filter p) := by
  unfold sel
  exact orAll_no fun l hl => h l (orAll_mem hl)
theorem sel_one {p q : List Int → Bool} {ls : List (List Int)} {o l : List Int} (ho : o ∈ ls) (hp : p o = true) (h : ∀ l ∈ ls, p l = true → q l = false) : l ∈ sel p q ls ↔ l ∈ ls ∧ p l = true := by
  unfold sel
  rw [orAll_no fun l hl => h l (orAll_mem hl) ((orAll_of ho hp).mp hl).2, orAll_of ho hp]
theorem sel_comm {f : List Int → List Int} {p q : List Int → Bool} {ls : List (List Int)}
    (h : (∃ l ∈ ls, p l = true) → (∃ l ∈ ls, q l = true) → (∃ l ∈ ls, p l = true ∧ q l = true) ∨ ((∀ l ∈ ls, p l = true → ∃ m ∈ ls, q m = true ∧ f l = f m) ∧ ∀ m ∈ ls, q m = true → ∃ l ∈ ls, p l = true ∧ f m = f l)) (z : List Int) :
    (∃ l, l ∈ sel p q ls ∧ f l = z) ↔ ∃ l, l ∈ sel q p ls ∧ f l = z := by
  by_cases c : ∃ l ∈ ls, p l = true ∧ q l = true
  · obtain ⟨o, ho, hp, hq⟩ := c
    constructor
    · rintro ⟨l, hl, e⟩
      obtain ⟨a, b, d⟩ := (sel_both ho hp hq).mp hl
      exact ⟨l, (sel_both ho hq hp).mpr ⟨a, d, b⟩, e⟩
    · rintro ⟨l, hl, e⟩
      obtain ⟨a, b, d⟩ := (sel_both ho hq hp).mp hl
      exact ⟨l, (sel_both ho hp hq).mpr ⟨a, d, b⟩, e⟩
  · have nf : ∀ {r : List Int → Bool}, ¬ (∃ l ∈ ls, r l = true) → ∀ l ∈ ls, r l = false := fun {r} n l hl => by
      cases e : r l with
      | false => rfl
      | true => exact absurd ⟨l, hl, e⟩ n
    by_cases a : ∃ l ∈ ls, p l = true
    · by_cases b : ∃ l ∈ ls, q l = true
      · rcases h a b with d | ⟨d1, d2⟩
        · exact absurd d c
        · obtain ⟨o, ho, hp⟩ := a
          obtain ⟨u, hu, hq⟩ := b
          have n1 : ∀ l ∈ ls, p l = true → q l = false := fun l hl e => by
            cases e2 : q l with
            | false => rfl
            | true => exact absurd ⟨l, hl, e, e2⟩ c
          have n2 : ∀ l ∈ ls, q l = true → p l = false := fun l hl e => by
            cases e2 : p l with
            | false => rfl
            | true => exact absurd ⟨l, hl, e2, e⟩ c
          constructor
          · rintro ⟨l, hl, e⟩
            obtain ⟨x1, x2⟩ := (sel_one ho hp n1).mp hl
            obtain ⟨m, m1, m2, m3⟩ := d1 l x1 x2
            exact ⟨m, (sel_one hu hq n2).mpr ⟨m1, m2⟩, m3 ▸ e⟩
          · rintro ⟨l, hl, e⟩
            obtain ⟨x1, x2⟩ := (sel_one hu hq n2).mp hl
            obtain ⟨m, m1, m2, m3⟩ := d2 l x1 x2
            exact ⟨m, (sel_one ho hp n1).mpr ⟨m1, m2⟩, m3 ▸ e⟩
      · rw [sel_right (nf b), sel_left (nf b)]
    · rw [sel_left (nf a), sel_right (nf a)]
theorem gone_gone {n a b : Int} {l : List Int} (h : Asc n l) (h0 : 0 ≤ a) (hab : a < b) (hb : b < n) : gone (b - 1) (gone a l) = gone a (gone b l) := by
  refine asc_ext (gone_asc (gone_asc h ⟨h0, by omega⟩) ⟨by omega, by omega⟩).1 (gone_asc (gone_asc h ⟨by omega, hb⟩) ⟨h0, by omega⟩).1 fun y => ?_
  rw [mem_gone, mem_gone, mem_gone, mem_gone, mem_gone, mem_gone]
  by_cases c : y < a
  · rw [if_pos (by omega), if_pos c, if_pos c, if_pos (by omega)]
  · by_cases d : y < b - 1
    · rw [if_pos d, if_neg c, if_neg c, if_pos (by omega)]
    · rw [if_neg d, if_neg (by omega), if_neg c, if_neg (by omega)]
theorem less_comm {n a b : Int} {ls : List (List Int)} {p p' q q' : List Int → Bool} (s : Smooth n ls) (h0 : 0 ≤ a) (hab : a < b) (hb : b < n) (hp : Of a p) (hq : Of b q) (op' : Of a p') (oq' : Of (b - 1) q') (hq' : ∀ l, q' (gone a l) = q l) (hp' : ∀ l, p' (gone b l) = p l)
    (h : (∃ l ∈ ls, p l = true) → (∃ l ∈ ls, q l = true) → (∃ l ∈ ls, p l = true ∧ q l = true) ∨ ((∀ l ∈ ls, p l = true → ∃ m ∈ ls, q m = true ∧ gone a (gone b l) = gone a (gone b m)) ∧ ∀ m ∈ ls, q m = true → ∃ l ∈ ls, p l = true ∧ gone a (gone b m) = gone a (gone b l))) :
    less q' (b - 1) (less p a ls) = less p' a (less q b ls) := by
  have s1 := (s.less (x := a) ⟨h0, by omega⟩ hp).less (x := b - 1) ⟨by omega, by omega⟩ oq'
  have s2 := (s.less (x := b) ⟨by omega, hb⟩ hq).less (x := a) ⟨h0, by omega⟩ op'
  refine asd_ext s1.good.asd s2.good.asd fun z => ?_
  rw [mem_less2 hq', mem_less2 hp', ← sel_comm (f := fun l => gone a (gone b l)) h z]
  constructor
  · rintro ⟨l, hl, e⟩
    rw [gone_gone (s.good.asc l (orAll_mem (orAll_mem hl))) h0 hab hb] at e
    exact ⟨l, hl, e⟩
  · rintro ⟨l, hl, e⟩
    refine ⟨l, hl, ?_⟩
    rw [gone_gone (s.good.asc l (orAll_mem (orAll_mem hl))) h0 hab hb]
    exact e
end LW

set_option Elab.async false
set_option maxRecDepth 100000
set_option linter.all false
set_option maxHeartbeats 2000000
namespace LW
open PySem PySem.Spec PyProof.Rows L2 PD
/-- alike outside two things -/
def Alike (x y : Int) (l m : List Int) : Prop := ∀ z, ¬ z = x → ¬ z = y → (z ∈ l ↔ z ∈ m)
theorem gone_alike {n a b : Int} {l m : List Int} (hl : Asc n l) (hm : Asc n m) (h0 : 0 ≤ a) (hab : a < b) (hb : b < n) (h : Alike a b l m) : gone a (gone b l) = gone a (gone b m) := by
  refine asc_ext (gone_asc (gone_asc hl ⟨by omega, hb⟩) ⟨h0, by omega⟩).1 (gone_asc (gone_asc hm ⟨by omega, hb⟩) ⟨h0, by omega⟩).1 fun y => ?_
  rw [mem_gone, mem_gone, mem_gone, mem_gone, mem_gone, mem_gone]
  by_cases c : y < a
  · rw [if_pos c, if_pos c, if_pos (by omega), if_pos (by omega)]
    exact h y (by omega) (by omega)
  · rw [if_neg c, if_neg c]
    by_cases d : y + 1 < b
    · rw [if_pos d, if_pos d]
      exact h _ (by omega) (by omega)
    · rw [if_neg d, if_neg d]
      exact h _ (by omega) (by omega)
theorem lack {n x y : Int} {ls : List (List Int)} {l o : List Int} (s : Smooth n ls) (hxy : ¬ x = y) (no : ¬ ∃ k ∈ ls, ¬ x ∈ k ∧ ¬ y ∈ k) (hl : l ∈ ls) (hx : ¬ x ∈ l) (ho : o ∈ ls) (hy : ¬ y ∈ o) : ∃ m ∈ ls, ¬ y ∈ m ∧ Alike x y l m := by
  have hyl : y ∈ l := Classical.byContradiction fun z => no ⟨l, hl, hx, z⟩
  obtain ⟨t, t1, t2, t3⟩ := s.exc l hl y hyl o ho hy
  have hty : ¬ y = t := fun z => hy (z ▸ t1)
  have ny : ¬ y ∈ exch l y t := fun z => (mem_exch.mp z).elim (fun z => z.2 rfl) hty
  have hxm : x ∈ exch l y t := Classical.byContradiction fun z => no ⟨_, t3, z, ny⟩
  have htx : x = t := (mem_exch.mp hxm).elim (fun z => absurd z.1 hx) id
  refine ⟨_, t3, ny, fun z z1 z2 => ?_⟩
  rw [mem_exch]
  constructor
  · intro h
    exact .inl ⟨h, z2⟩
  · rintro (h | h)
    · exact h.1
    · exact absurd (h.trans htx.symm) z1
theorem both {n x y : Int} {ls : List (List Int)} {l o : List Int} (s : Smooth n ls) (hxy : ¬ x = y) (no : ¬ ∃ k ∈ ls, x ∈ k ∧ y ∈ k) (hl : l ∈ ls) (hx : x ∈ l) (ho : o ∈ ls) (hy : y ∈ o) : ∃ m ∈ ls, y ∈ m ∧ Alike x y l m := by
  have hyl : ¬ y ∈ l := fun z => no ⟨l, hl, hx, z⟩
  obtain ⟨k, k1, k2, k3⟩ := near s hl hyl _ o ho hy (Nat.le_refl _)
  have hxk : ¬ x ∈ k := fun z => no ⟨k, k1, z, k2⟩
  have la := s.good.asc l hl
  have ka := s.good.asc k k1
  have sub : (k.filter fun z => !(z == y)).Sublist (l.filter fun z => !(z == x)) := asc_sub (ka.1.filter _) (la.1.filter _) fun z hz => by
    obtain ⟨z1, z2⟩ := List.mem_filter.mp hz
    have z3 : ¬ z = y := by simpa using z2
    exact List.mem_filter.mpr ⟨k3 z z1 z3, by simpa using fun e : z = x => hxk (e ▸ z1)⟩
  have e1 := gone_len (x := y) ka.nodup
  have e2 := gone_len (x := x) la.nodup
  unfold gone at e1 e2
  rw [List.length_map, if_pos k2] at e1
  rw [List.length_map, if_pos hx] at e2
  have e := sub.eq_of_length (by rw [e1, e2, s.eqs k k1 l hl])
  refine ⟨k, k1, k2, fun z z1 z2 => ?_⟩
  constructor
  · intro h
    have : z ∈ l.filter fun z => !(z == x) := List.mem_filter.mpr ⟨h, by simpa using z1⟩
    rw [← e] at this
    exact (List.mem_filter.mp this).1
  · intro h
    exact k3 z h z2
theorem Alike.swap {x y : Int} {l m : List Int} (h : Alike x y l m) : Alike y x l m := fun z z1 z2 => h z z2 z1
theorem one_of_each {n x y : Int} {ls : List (List Int)} {l o : List Int} (s : Smooth n ls) (hxy : ¬ x = y) (hl : l ∈ ls) (hx : x ∈ l) (ho : o ∈ ls) (hy : ¬ y ∈ o) : ∃ m ∈ ls, x ∈ m ∧ ¬ y ∈ m := by
  by_cases c : y ∈ l
  · obtain ⟨t, t1, t2, t3⟩ := s.exc l hl y c o ho hy
    exact ⟨_, t3, mem_exch.mpr (.inl ⟨hx, hxy⟩), fun z => (mem_exch.mp z).elim (fun z => z.2 rfl) fun z => hy (z ▸ t1)⟩
  · exact ⟨l, hl, hx, c⟩
section
variable {n a b : Int} {ls : List (List Int)} (s : Smooth n ls) (h0 : 0 ≤ a) (hab : a < b) (hb : b < n)
theorem has_up {a b : Int} (hab : a < b) (l : List Int) : has (b - 1) (gone a l) = has b l := (Bool.eq_iff_iff.mpr (by rw [has_true, has_true, mem_gone, if_neg (by omega), show b - 1 + 1 = b by omega]))
theorem has_down {a b : Int} (hab : a < b) (l : List Int) : has a (gone b l) = has a l := (Bool.eq_iff_iff.mpr (by rw [has_true, has_true, mem_gone, if_pos hab]))
theorem hasno_has (x : Int) (l : List Int) : hasno x l = !has x l := rfl
theorem hasno_up {a b : Int} (hab : a < b) (l : List Int) : hasno (b - 1) (gone a l) = hasno b l := by rw [hasno_has, hasno_has, has_up hab]
theorem hasno_down {a b : Int} (hab : a < b) (l : List Int) : hasno a (gone b l) = hasno a l := by rw [hasno_has, hasno_has, has_down hab]
include s h0 hab hb
theorem comm_ww : less (hasno (b - 1)) (b - 1) (less (hasno a) a ls) = less (hasno a) a (less (hasno b) b ls) := by
  refine less_comm s h0 hab hb (of_hasno a) (of_hasno b) (of_hasno a) (of_hasno _) (hasno_up hab) (hasno_down hab) ?_
  rintro ⟨u, hu, hu'⟩ ⟨v, hv, hv'⟩
  by_cases c : ∃ k ∈ ls, ¬ a ∈ k ∧ ¬ b ∈ k
  · obtain ⟨k, k1, k2, k3⟩ := c
    exact .inl ⟨k, k1, hasno_true.mpr k2, hasno_true.mpr k3⟩
  · refine .inr ⟨fun l hl e => ?_, fun l hl e => ?_⟩
    · obtain ⟨m, m1, m2, m3⟩ := lack s (by omega) c hl (hasno_true.mp e) hv (hasno_true.mp hv')
      exact ⟨m, m1, hasno_true.mpr m2, gone_alike (s.good.asc l hl) (s.good.asc m m1) h0 hab hb m3⟩
    · obtain ⟨m, m1, m2, m3⟩ := lack (x := b) (y := a) s (by omega) (fun ⟨k, k1, k2, k3⟩ => c ⟨k, k1, k3, k2⟩) hl (hasno_true.mp e) hu (hasno_true.mp hu')
      exact ⟨m, m1, hasno_true.mpr m2, gone_alike (s.good.asc l hl) (s.good.asc m m1) h0 hab hb m3.swap⟩
theorem comm_hh : less (has (b - 1)) (b - 1) (less (has a) a ls) = less (has a) a (less (has b) b ls) := by
  refine less_comm s h0 hab hb (of_has a) (of_has b) (of_has a) (of_has _) (has_up hab) (has_down hab) ?_
  rintro ⟨u, hu, hu'⟩ ⟨v, hv, hv'⟩
  by_cases c : ∃ k ∈ ls, a ∈ k ∧ b ∈ k
  · obtain ⟨k, k1, k2, k3⟩ := c
    exact .inl ⟨k, k1, has_true.mpr k2, has_true.mpr k3⟩
  · refine .inr ⟨fun l hl e => ?_, fun l hl e => ?_⟩
    · obtain ⟨m, m1, m2, m3⟩ := both s (by omega) c hl (has_true.mp e) hv (has_true.mp hv')
      exact ⟨m, m1, has_true.mpr m2, gone_alike (s.good.asc l hl) (s.good.asc m m1) h0 hab hb m3⟩
    · obtain ⟨m, m1, m2, m3⟩ := both (x := b) (y := a) s (by omega) (fun ⟨k, k1, k2, k3⟩ => c ⟨k, k1, k3, k2⟩) hl (has_true.mp e) hu (has_true.mp hu')
      exact ⟨m, m1, has_true.mpr m2, gone_alike (s.good.asc l hl) (s.good.asc m m1) h0 hab hb m3.swap⟩
theorem comm_hw : less (hasno (b - 1)) (b - 1) (less (has a) a ls) = less (has a) a (less (hasno b) b ls) := by
  refine less_comm s h0 hab hb (of_has a) (of_hasno b) (of_has a) (of_hasno _) (hasno_up hab) (has_down hab) ?_
  rintro ⟨u, hu, hu'⟩ ⟨v, hv, hv'⟩
  obtain ⟨m, m1, m2, m3⟩ := one_of_each (y := b) s (by omega) hu (has_true.mp hu') hv (hasno_true.mp hv')
  exact .inl ⟨m, m1, has_true.mpr m2, hasno_true.mpr m3⟩
theorem comm_wh : less (has (b - 1)) (b - 1) (less (hasno a) a ls) = less (hasno a) a (less (has b) b ls) := by
  refine less_comm s h0 hab hb (of_hasno a) (of_has b) (of_hasno a) (of_has _) (has_up hab) (hasno_down hab) ?_
  rintro ⟨u, hu, hu'⟩ ⟨v, hv, hv'⟩
  obtain ⟨m, m1, m2, m3⟩ := one_of_each (x := b) (y := a) s (by omega) hv (has_true.mp hv') hu (hasno_true.mp hu')
  exact .inl ⟨m, m1, hasno_true.mpr m3, has_true.mpr m2⟩
end
end LW

set_option Elab.async false
set_option maxRecDepth 100000
set_option linter.all false
set_option maxHeartbeats 4000000
namespace LW
open PySem PySem.Spec PyProof.Rows L2 PD
theorem v_in_both (n a b : Int) (ls : List (List Int)) (s : Smooth n ls) (h0 : 0 ≤ a) (hab : a < b) (hb : b < n) (hn : n ≤ 12) :
    m_law_in_both_orders [ofr n ls, .int a, .int b] = .ok (.bool true) := by
  show endR (g_law_in_both_orders [some (.d (ofr n ls)), some (.d (.int a)), some (.d (.int b)), none, none, none, none, none, none, none, none]) = _
  have j0 : ∀ m ks, oIx (ofr m ks) (.int 0) = .ok (.int m) := fun _ _ => rfl
  have j1 : ∀ m ks, oIx (ofr m ks) (.int 1) = .ok (tt ks) := fun _ _ => rfl
  have w : ∀ m ks x, m_without [ofr m ks, .int x] = .ok (ofr (m - 1) (less (hasno x) x ks)) := fun m ks x => v_withoutL m ks x
  have h : ∀ m ks x, m_holding [ofr m ks, .int x] = .ok (ofr (m - 1) (less (has x) x ks)) := fun m ks x => v_holdingL m ks x
  have sw := s.less (x := a) ⟨h0, by omega⟩ (of_hasno a)
  have sh := s.less (x := a) ⟨h0, by omega⟩ (of_has a)
  have tw := sw.tells (by omega) (by omega)
  have th := sh.tells (by omega) (by omega)
  have s1 := v_some sw.good (by omega)
  have s2 := v_some sh.good (by omega)
  have f := v_ranks_fit n a ls s ⟨h0, by omega⟩ hn
  have bb : 0 ≤ b - 1 ∧ b - 1 < n - 1 := by omega
  have n2 : n - 2 = n - 1 - 1 := by omega
  have t1 := v_some (sw.less bb (of_hasno (b - 1))).good (by omega)
  have t2 := v_some (sh.less bb (of_has (b - 1))).good (by omega)
  have t3 := v_some (sh.less bb (of_hasno (b - 1))).good (by omega)
  have t4 := v_some (sw.less bb (of_has (b - 1))).good (by omega)
  rw [comm_ww s h0 hab hb] at t1
  rw [comm_hh s h0 hab hb] at t2
  rw [comm_hw s h0 hab hb] at t3
  rw [comm_wh s h0 hab hb] at t4
  have i1 : isNone .none = true := rfl
  have is1 : oIsNot (.bool true) (.bool true) = .ok (.bool false) := rfl
  rw [← n2] at t1 t2 t3 t4
  have l4 : ∀ A B C D : PyData, lstR [A, B, C, D] = .ok (.list [A, B, C, D]) := fun A B C D => lstR_ok (by show 4 ≤ 100000; decide)
  have it : ∀ xs : List PyData, items (.list xs) = .ok xs := fun _ => rfl
  have c4 : lcR (fun d => R.ok true) (fun d => m_law_is_some_offer [d, .int (n - 2)])
      [ofr (n - 2) (less (hasno a) a (less (hasno b) b ls)), ofr (n - 2) (less (has a) a (less (has b) b ls)), ofr (n - 2) (less (has a) a (less (hasno b) b ls)), ofr (n - 2) (less (hasno a) a (less (has b) b ls))]
      = .ok [.bool true, .bool true, .bool true, .bool true] := by
    simp only [lcR, nx, if_true, t1, t2, t3, t4]
  have al : bAll [.list [.bool true, .bool true, .bool true, .bool true]] = .ok (.bool true) := rfl
  simp [g_law_in_both_orders, j0, j1, w, h, s1, s2, tw.1, tw.2, th.1, th.2, f, i1, is1, comm_ww s h0 hab hb, comm_hh s h0 hab hb, comm_hw s h0 hab hb, comm_wh s h0 hab hb, oNe_ofr, oEq_ofr, ← n2, l4, it, c4, al]
end LW

set_option Elab.async false
set_option maxRecDepth 100000
set_option linter.all false
set_option maxHeartbeats 2000000
namespace LW
open PySem PySem.Spec PyProof.Rows L2 PD
/-- `near`, and what the first lot shares with l stays -/
theorem near_keep {n x : Int} {ls : List (List Int)} {l : List Int} (s : Smooth n ls) (hl : l ∈ ls) (hxl : ¬ x ∈ l) : ∀ (m : Nat) (k : List Int), k ∈ ls → x ∈ k → (k.filter fun y => !decide (y ∈ l)).length ≤ m → ∃ k' ∈ ls, x ∈ k' ∧ (∀ y ∈ k', ¬ y = x → y ∈ l) ∧ ∀ y ∈ k, y ∈ l → y ∈ k'
  | 0, k, hk, hxk, hm => by
    have e := List.eq_nil_of_length_eq_zero (Nat.le_zero.mp hm)
    have : x ∈ k.filter fun y => !decide (y ∈ l) := List.mem_filter.mpr ⟨hxk, by simpa using hxl⟩
    rw [e] at this
    cases this
  | m + 1, k, hk, hxk, hm => by
    by_cases c : ∀ y ∈ k, ¬ y = x → y ∈ l
    · exact ⟨k, hk, hxk, c, fun y hy _ => hy⟩
    · obtain ⟨z, hz⟩ := Classical.not_forall.mp c
      obtain ⟨z1, hz⟩ := Classical.not_imp.mp hz
      obtain ⟨z2, z3⟩ := Classical.not_imp.mp hz
      obtain ⟨t, t1, t2, t3⟩ := s.exc k hk z z1 l hl z3
      have ka := s.good.asc k hk
      have ea := s.good.asc _ t3
      have sub : ((exch k z t).filter fun y => !decide (y ∈ l)).length ≤ ((k.filter fun y => !decide (y ∈ l)).filter fun y => !(y == z)).length := by
        refine sub_len (ea.1.filter _) ((ka.1.filter _).filter _) fun y hy => ?_
        obtain ⟨y1, y2⟩ := List.mem_filter.mp hy
        have y3 : ¬ y ∈ l := by simpa using y2
        rcases mem_exch.mp y1 with q | q
        · exact List.mem_filter.mpr ⟨List.mem_filter.mpr ⟨q.1, y2⟩, by simpa using q.2⟩
        · exact absurd (q ▸ t1) y3
      have one := gone_len (x := z) (l := k.filter fun y => !decide (y ∈ l)) (ka.nodup.filter _)
      unfold gone at one
      rw [List.length_map, if_pos (List.mem_filter.mpr ⟨z1, by simpa using z3⟩)] at one
      obtain ⟨k', k1, k2, k3, k4⟩ := near_keep s hl hxl m (exch k z t) t3 (mem_exch.mpr (.inl ⟨hxk, fun e => z2 e.symm⟩)) (by omega)
      exact ⟨k', k1, k2, k3, fun y hy hyl => k4 y (mem_exch.mpr (.inl ⟨hy, fun e => z3 (e ▸ hyl)⟩)) hyl⟩
/-- the exchange from the other side: x comes in, a thing of l alone goes -/
theorem exc_in {n x : Int} {ls : List (List Int)} {l o : List Int} (s : Smooth n ls) (hl : l ∈ ls) (hxl : ¬ x ∈ l) (ho : o ∈ ls) (hxo : x ∈ o) : ∃ t ∈ l, ¬ t ∈ o ∧ exch l t x ∈ ls := by
  obtain ⟨k, k1, k2, k3, k4⟩ := near_keep s hl hxl _ o ho hxo (Nat.le_refl _)
  have la := s.good.asc l hl
  have ka := s.good.asc k k1
  have e := s.eqs k k1 l hl
  have e1 := gone_len (x := x) ka.nodup
  unfold gone at e1
  rw [List.length_map, if_pos k2] at e1
  have pos := List.length_pos_of_mem k2
  -- some thing of l is not in k
  have out : ∃ t, t ∈ l ∧ ¬ t ∈ k := Classical.byContradiction fun no => by
    have a : ∀ t ∈ l, t ∈ k.filter fun y => !(y == x) := fun t ht => List.mem_filter.mpr ⟨Classical.byContradiction fun z => no ⟨t, ht, z⟩, by simpa using fun z : t = x => hxl (z ▸ ht)⟩
    have := sub_len la.1 (ka.1.filter _) a
    omega
  obtain ⟨t, t1, t2⟩ := out
  have e2 := gone_len (x := t) la.nodup
  unfold gone at e2
  rw [List.length_map, if_pos t1] at e2
  have sub : (k.filter fun y => !(y == x)).Sublist (l.filter fun y => !(y == t)) := asc_sub (ka.1.filter _) (la.1.filter _) fun y hy => by
    obtain ⟨y1, y2⟩ := List.mem_filter.mp hy
    exact List.mem_filter.mpr ⟨k3 y y1 (by simpa using y2), by simpa using fun z : y = t => t2 (z ▸ y1)⟩
  have same := sub.eq_of_length (by rw [e1, e2, e])
  refine ⟨t, t1, fun z => t2 (k4 t z t1), ?_⟩
  have : exch l t x = k := asc_ext (exch_asc la hxl (ka.2 x k2)).1 ka.1 fun y => by
    rw [mem_exch]
    constructor
    · rintro (⟨a, b⟩ | a)
      · have : y ∈ l.filter fun y => !(y == t) := List.mem_filter.mpr ⟨a, by simpa using b⟩
        rw [← same] at this
        exact (List.mem_filter.mp this).1
      · exact a ▸ k2
    · intro h
      by_cases c : y = x
      · exact .inr c
      · exact .inl ⟨k3 y h c, fun z => t2 (z ▸ h)⟩
  rw [this]
  exact k1
theorem rest_exch {n t x : Int} {l : List Int} (h : Asc n l) (hx : ¬ x ∈ l) (hb : 0 ≤ x ∧ x < n) (ht : t ∈ l) : exch (rest n l) x t = rest n (exch l t x) := by
  have htx : ¬ t = x := fun z => hx (z ▸ ht)
  refine asc_ext (exch_asc (rest_asc n l) (fun z => (mem_rest.mp z).2 ht) (h.2 t ht)).1 (rest_asc _ _).1 fun y => ?_
  rw [mem_exch, mem_rest, mem_rest, mem_exch]
  constructor
  · rintro (⟨⟨a, b⟩, c⟩ | a)
    · exact ⟨a, fun z => z.elim (fun z => b z.1) c⟩
    · rw [a]
      exact ⟨h.2 t ht, fun z => z.elim (fun z => z.2 rfl) htx⟩
  · rintro ⟨a, b⟩
    by_cases c : y = t
    · exact .inr c
    · exact .inl ⟨⟨a, fun z => b (.inl ⟨z, c⟩)⟩, fun z => b (.inr z)⟩
theorem mem_opp {n : Int} {ls : List (List Int)} {l : List Int} : l ∈ opp n ls ↔ ∃ k ∈ ls, rest n k = l := by
  unfold opp
  rw [mem_sortT, List.mem_map]
theorem rest_len {n : Int} {l : List Int} (h : Asc n l) : (rest n l).length + l.length = (rangeI 0 n).length := by
  have e : l = (rangeI 0 n).filter fun x => decide (x ∈ l) := asc_ext h.1 ((rangeI_asc 0 n).filter _) fun y => by
    rw [List.mem_filter, mem_rangeI]
    exact ⟨fun z => ⟨h.2 y z, decide_eq_true z⟩, fun z => of_decide_eq_true z.2⟩
  have sp : ∀ (m : List Int) (p : Int → Bool), (m.filter fun y => !p y).length + (m.filter p).length = m.length := fun m p => by
    induction m with
    | nil => rfl
    | cons y m ih =>
      cases q : p y with
      | true => rw [List.filter_cons_of_neg (p := fun y => !p y) (by simp [q]), List.filter_cons_of_pos (p := p) q, List.length_cons, List.length_cons]; omega
      | false => rw [List.filter_cons_of_pos (p := fun y => !p y) (by simp [q]), List.filter_cons_of_neg (p := p) (by simp [q]), List.length_cons, List.length_cons]; omega
  have := sp (rangeI 0 n) fun x => decide (x ∈ l)
  rw [← e] at this
  exact this
theorem Smooth.opp {n : Int} {ls : List (List Int)} (s : Smooth n ls) : Smooth n (opp n ls) := by
  refine ⟨s.good.opp, ?_, ?_⟩
  · intro l' hl' x hx o' ho' nx
    obtain ⟨l, hl, rfl⟩ := mem_opp.mp hl'
    obtain ⟨o, ho, rfl⟩ := mem_opp.mp ho'
    obtain ⟨xb, xl⟩ := mem_rest.mp hx
    have xo : x ∈ o := Classical.byContradiction fun z => nx (mem_rest.mpr ⟨xb, z⟩)
    obtain ⟨t, t1, t2, t3⟩ := exc_in s hl xl ho xo
    refine ⟨t, mem_rest.mpr ⟨(s.good.asc l hl).2 t t1, t2⟩, fun z => (mem_rest.mp z).2 t1, ?_⟩
    rw [rest_exch (s.good.asc l hl) xl xb t1]
    exact mem_opp.mpr ⟨_, t3, rfl⟩
  · intro l' hl' k' hk'
    obtain ⟨l, hl, rfl⟩ := mem_opp.mp hl'
    obtain ⟨k, hk, rfl⟩ := mem_opp.mp hk'
    have a := rest_len (s.good.asc l hl)
    have b := rest_len (s.good.asc k hk)
    have c := s.eqs l hl k hk
    omega
end LW

set_option Elab.async false
set_option maxRecDepth 100000
set_option linter.all false
set_option maxHeartbeats 2000000
namespace LW
open PySem PySem.Spec PyProof.Rows L2 PD
/-- the things of a row in one class -/
def cls (cf : Int → Int) (k : Int) (l : List Int) : Nat := (l.filter fun x => cf x == k).length
def Fit (cf bf : Int → Int) (l : List Int) : Prop := ∀ k, 0 ≤ k → k < 3 → (cls cf k l : Int) ≤ bf k
theorem cls_sum {cf : Int → Int} : ∀ {l : List Int}, (∀ x ∈ l, 0 ≤ cf x ∧ cf x < 3) → l.length = cls cf 0 l + cls cf 1 l + cls cf 2 l
  | [], _ => rfl
  | x :: l, h => by
    have ih := cls_sum (cf := cf) (l := l) fun y hy => h y (List.mem_cons_of_mem _ hy)
    have hx := h x List.mem_cons_self
    have one : ∀ k, cls cf k (x :: l) = cls cf k l + if cf x = k then 1 else 0 := fun k => by
      unfold cls
      by_cases c : cf x = k
      · rw [List.filter_cons_of_pos (by simpa using c), if_pos c, List.length_cons]
      · rw [List.filter_cons_of_neg (by simpa using c), if_neg c]
        rfl
    rw [one, one, one, List.length_cons, ih]
    have : cf x = 0 ∨ cf x = 1 ∨ cf x = 2 := by omega
    rcases this with e | e | e <;> rw [e] <;> simp <;> omega
theorem cls_perm {cf : Int → Int} {k : Int} {l m : List Int} (p : l.Perm m) : cls cf k l = cls cf k m := (p.filter _).length_eq
theorem cls_exch {cf : Int → Int} {k x t : Int} {l : List Int} : cls cf k (exch l x t) = cls cf k (l.filter fun y => !(y == x)) + if cf t = k then 1 else 0 := by
  have p : (exch l x t).Perm (l.filter (fun y => !(y == x)) ++ [t]) := (sortD_ints _).2
  rw [cls_perm p]
  unfold cls
  rw [List.filter_append, List.length_append]
  congr 1
  by_cases c : cf t = k
  · rw [if_pos c, List.filter_cons_of_pos (by simpa using c)]
    rfl
  · rw [if_neg c, List.filter_cons_of_neg (by simpa using c)]
    rfl
theorem exch_len {x t : Int} {l : List Int} (nd : l.Nodup) (hx : x ∈ l) : (exch l x t).length = l.length := by
  have p : (exch l x t).Perm (l.filter (fun y => !(y == x)) ++ [t]) := (sortD_ints _).2
  have e := gone_len (x := x) nd
  unfold gone at e
  rw [List.length_map, if_pos hx] at e
  have pos := List.length_pos_of_mem hx
  rw [p.length_eq, List.length_append, e]
  show l.length - 1 + 1 = l.length
  omega
theorem fit_exc {n x : Int} {cf bf : Int → Int} {l o : List Int} (hc : ∀ x, 0 ≤ x → x < n → 0 ≤ cf x ∧ cf x < 3) (la : Asc n l) (oa : Asc n o) (lf : Fit cf bf l) (of : Fit cf bf o) (e : l.length = o.length) (hx : x ∈ l) (nx : ¬ x ∈ o) :
    ∃ t ∈ o, ¬ t ∈ l ∧ Asc n (exch l x t) ∧ Fit cf bf (exch l x t) ∧ (exch l x t).length = l.length := by
  have cr : ∀ {m : List Int}, Asc n m → ∀ y ∈ m, 0 ≤ cf y ∧ cf y < 3 := fun {m} ma y hy => hc y (ma.2 y hy).1 (ma.2 y hy).2
  have g := gone_len (x := x) la.nodup
  unfold gone at g
  rw [List.length_map, if_pos hx] at g
  have pos := List.length_pos_of_mem hx
  have s1 := cls_sum (cf := cf) (cr oa)
  have s2 := cls_sum (cf := cf) (l := l.filter fun y => !(y == x)) fun y hy => cr la y (List.mem_filter.mp hy).1
  have more : ∃ k, (0 ≤ k ∧ k < 3) ∧ cls cf k (l.filter fun y => !(y == x)) < cls cf k o := by
    by_cases a : cls cf 0 (l.filter fun y => !(y == x)) < cls cf 0 o
    · exact ⟨0, by omega, a⟩
    · by_cases b : cls cf 1 (l.filter fun y => !(y == x)) < cls cf 1 o
      · exact ⟨1, by omega, b⟩
      · exact ⟨2, by omega, by omega⟩
  obtain ⟨k, hk, lt⟩ := more
  have new : ∃ t ∈ o, cf t = k ∧ ¬ t ∈ l.filter fun y => !(y == x) := Classical.byContradiction fun no => by
    have : cls cf k o ≤ cls cf k (l.filter fun y => !(y == x)) := sub_len (oa.1.filter _) ((la.1.filter _).filter _) fun y hy => by
      obtain ⟨y1, y2⟩ := List.mem_filter.mp hy
      exact List.mem_filter.mpr ⟨Classical.byContradiction fun z => no ⟨y, y1, by simpa using y2, z⟩, y2⟩
    omega
  obtain ⟨t, t1, t2, t3⟩ := new
  have tl : ¬ t ∈ l := fun z => t3 (List.mem_filter.mpr ⟨z, by simpa using fun e : t = x => nx (e ▸ t1)⟩)
  refine ⟨t, t1, tl, exch_asc la tl (oa.2 t t1), fun j j0 j1 => ?_, exch_len la.nodup hx⟩
  rw [cls_exch]
  by_cases c : cf t = j
  · rw [if_pos c]
    have := of j j0 j1
    rw [← c, t2] at this ⊢
    omega
  · rw [if_neg c]
    have a := lf j j0 j1
    have : cls cf j (l.filter fun y => !(y == x)) ≤ cls cf j l := sub_len ((la.1.filter _).filter _) (la.1.filter _) fun y hy => by
      obtain ⟨y1, y2⟩ := List.mem_filter.mp hy
      exact List.mem_filter.mpr ⟨(List.mem_filter.mp y1).1, y2⟩
    omega
/-- a part of a row that fits does -/
theorem fit_take {cf bf : Int → Int} {l : List Int} (h : Fit cf bf l) (m : Nat) : Fit cf bf (l.take m) := fun k k0 k1 => by
  have a := h k k0 k1
  have b : cls cf k (l.take m) ≤ cls cf k l := ((List.take_sublist m l).filter _).length_le
  omega
theorem asc_take {n : Int} {l : List Int} (h : Asc n l) (m : Nat) : Asc n (l.take m) := ⟨h.1.sublist (List.take_sublist m l), fun x hx => h.2 x (List.mem_of_mem_take hx)⟩
end LW

set_option Elab.async false
set_option maxRecDepth 100000
set_option linter.all false
set_option maxHeartbeats 2000000
namespace LW
open PySem PySem.Spec PyProof.Rows L2 PD
/-- what is kept and what is still to come stand in order -/
def Run (R : List Int → List Int → Prop) (kept xs : List (List Int)) : Prop := kept.Pairwise R ∧ xs.Pairwise R ∧ ∀ a ∈ kept, ∀ b ∈ xs, R a b
theorem Run.keep {R : List Int → List Int → Prop} {x : List Int} {kept xs : List (List Int)} (h : Run R kept (x :: xs)) : Run R (kept ++ [x]) xs := by
  obtain ⟨h1, h2, h3⟩ := h
  obtain ⟨h4, h5⟩ := List.pairwise_cons.mp h2
  refine ⟨List.pairwise_append.mpr ⟨h1, List.pairwise_singleton _ _, fun a ha b hb => ?_⟩, h5, fun a ha b hb => ?_⟩
  · rw [List.mem_singleton.mp hb]
    exact h3 a ha x List.mem_cons_self
  · rcases List.mem_append.mp ha with z | z
    · exact h3 a z b (List.mem_cons_of_mem _ hb)
    · rw [List.mem_singleton.mp z]
      exact h4 b hb
theorem Run.skip {R : List Int → List Int → Prop} {x : List Int} {kept xs : List (List Int)} (h : Run R kept (x :: xs)) : Run R kept xs := ⟨h.1, (List.pairwise_cons.mp h.2.1).2, fun a ha b hb => h.2.2 a ha b (List.mem_cons_of_mem _ hb)⟩
theorem Run.start {R : List Int → List Int → Prop} {xs : List (List Int)} (h : xs.Pairwise R) : Run R [] xs := ⟨.nil, h, fun a ha => by cases ha⟩
theorem v_parts2 (n : Int) (h0 : 0 ≤ n) (h1 : n ≤ 12) : ∃ rows : List (List Int), m_law_parts_of [.int n] = .ok (lt rows) ∧ (∀ r, r ∈ rows ↔ Asc n r) ∧ rows.length = 2 ^ n.toNat ∧ Asd rows := by
  show ∃ rows : List (List Int), endR (g_law_parts_of [some (.d (.int n)), none, none, none]) = _ ∧ _
  have key := forGo_inv (i := 2) (g := b_law_parts_of_1) (enc := PyData.int) (fun xs ρ => ∃ (k : Int) (rows : List (List Int)) (o2 : Option Sl),
    xs = rangeI k n ∧ 0 ≤ k ∧ k ≤ n ∧ ρ = [some (.d (.int n)), some (.d (lt rows)), o2, none] ∧ (∀ r, r ∈ rows ↔ Asc k r) ∧ rows.length = 2 ^ k.toNat ∧ rows.Nodup) (by
    rintro x xs ρ ⟨k, rows, o2, hx, hk, hkn, rfl, hr, hz, hd⟩
    obtain ⟨hk1, rfl, rfl⟩ := rangeI_inv hx
    have hp : 2 ^ x.toNat ≤ 2 ^ 12 := Nat.pow_le_pow_right (by decide) (by omega)
    have e1 : lcR (fun _ => R.ok true) (fun r : List Int => oAdd (tu r) (tu [x])) rows = .ok (rows.map fun r => tu (r ++ [x])) := lcR_mem fun r hm => oAdd_tu (by have := ((hr r).mp hm).len; simp; omega)
    have e2 : oAdd (lt rows) (lt (rows.map fun r => r ++ [x])) = .ok (lt (rows ++ rows.map fun r => r ++ [x])) := oAdd_lt (by rw [List.length_map, hz]; omega)
    refine ⟨[some (.d (.int n)), some (.d (lt (rows ++ rows.map fun r => r ++ [x]))), some (.d (.int x)), none], ?_, x + 1, _, _, rfl, by omega, by omega, rfl, fun r => ?_, ?_, ?_⟩
    · simp [b_law_parts_of_1, e1, e2]
    · rw [List.mem_append, List.mem_map, asc_succ hk, hr r]
      constructor
      · rintro (h | ⟨a, ha, rfl⟩)
        · exact .inl h
        · exact .inr ⟨a, (hr a).mp ha, rfl⟩
      · rintro (h | ⟨a, ha, rfl⟩)
        · exact .inl h
        · exact .inr ⟨a, (hr a).mpr ha, rfl⟩
    · rw [List.length_append, List.length_map, hz, show (x + 1).toNat = x.toNat + 1 by omega, Nat.pow_succ]; omega
    · rw [List.nodup_append]
      refine ⟨hd, List.pairwise_map.mpr (hd.imp fun {a b} ne e => ne (List.append_cancel_right e)), fun a ha b hb e => ?_⟩
      obtain ⟨c, _, rfl⟩ := List.mem_map.mp hb
      have := ((hr a).mp ha).2 x (by rw [e]; simp)
      omega)
  have hi : ∀ r : List Int, r ∈ [[]] ↔ Asc 0 r := fun r => by
    constructor
    · intro h
      rw [List.mem_singleton.mp h]; exact Asc.nil _
    · intro h
      have := h.len
      have : r.length = 0 := by simpa using this
      rw [List.length_eq_zero_iff.mp this]; simp
  obtain ⟨ρ', e, k, rows, o2, hx, hk, hkn, rfl, hr, hz, hd⟩ := key (rangeI 0 n) [some (.d (.int n)), some (.d (lt [[]])), none, none] ⟨0, [[]], none, rfl, by omega, h0, rfl, hi, rfl, by simp⟩
  · have ek : k = n := by
      by_cases h : k < n
      · rw [rangeI_cons h] at hx; cases hx
      · omega
    subst ek
    have hp : 2 ^ k.toNat ≤ 2 ^ 12 := Nat.pow_le_pow_right (by decide) (by omega)
    refine ⟨sortT rows, ?_, fun r => mem_sortT.trans (hr r), ?_, asd_sortT hd⟩
    · simp [g_law_parts_of, rngA1_ok (show k ≤ 100000 by omega) (show -1000 ≤ k by omega), e]
    · rw [(sortT_perm rows).length_eq, hz]
theorem v_antichain2 (rows : List (List Int)) (hz : rows.length ≤ 5000) : ∃ ks : List (List Int), m_law_antichain [lt rows] = .ok (tt ks) ∧ (∀ x, x ∈ ks ↔ x ∈ rows ∧ Top rows x) ∧ Asd ks ∧ ks.length ≤ rows.length := by
  show ∃ ks : List (List Int), endR (g_law_antichain [some (.d (lt rows)), none, none, none]) = _ ∧ _
  have key := forGo_inv (i := 2) (g := b_law_antichain_1) (enc := tu) (fun xs ρ => ∃ (kept : List (List Int)) (o2 : Option Sl),
    ρ = [some (.d (lt rows)), some (.own (kept.map tu)), o2, none] ∧ (∀ x ∈ xs, x ∈ rows) ∧ kept.length + xs.length ≤ rows.length ∧ (∀ x ∈ kept, x ∈ rows ∧ Top rows x) ∧ (∀ x ∈ rows, Top rows x → x ∈ kept ∨ x ∈ xs) ∧ Run (fun a b => leT a b = true) kept xs ∧ kept.Nodup) (by
    rintro x xs ρ ⟨kept, o2, rfl, hx, hl, h1, h2, hR, hN⟩
    have hl' : kept.length + (xs.length + 1) ≤ rows.length := by simpa using hl
    have hs : kept.length < sizeLine := line_lt (by omega)
    by_cases hb : x ∉ kept ∧ Top rows x
    · refine ⟨[some (.d (lt rows)), some (.own ((kept ++ [x]).map tu)), some (.d (tu x)), none], ?_, kept ++ [x], _, rfl, fun y hy => hx y (List.mem_cons_of_mem _ hy), by simp; omega, fun y hy => ?_, fun y hy ht => ?_, hR.keep, List.nodup_append.mpr ⟨hN, by simp, fun a ha b hb2 e => hb.1 (by rw [← List.mem_singleton.mp hb2, ← e]; exact ha)⟩⟩
      · obtain ⟨hb1, hb2⟩ := hb
        simp [b_law_antichain_1, v_within, hb1, hs]
        exact top_iff.mp hb2
      · rcases List.mem_append.mp hy with hy | hy
        · exact h1 y hy
        · rw [List.mem_singleton.mp hy]; exact ⟨hx x List.mem_cons_self, hb.2⟩
      · rcases h2 y hy ht with h | h
        · exact .inl (List.mem_append_left _ h)
        · rcases List.mem_cons.mp h with rfl | h
          · exact .inl (by simp)
          · exact .inr h
    · refine ⟨[some (.d (lt rows)), some (.own (kept.map tu)), some (.d (tu x)), none], ?_, kept, _, rfl, fun y hy => hx y (List.mem_cons_of_mem _ hy), by omega, h1, fun y hy ht => ?_, hR.skip, hN⟩
      · by_cases hm : x ∈ kept
        · simp [b_law_antichain_1, v_within, hm]
        · have hn : ¬ Top rows x := fun h => hb ⟨hm, h⟩
          simp [b_law_antichain_1, v_within, hm]
          exact fun h => absurd (top_iff.mpr h) hn
      · rcases h2 y hy ht with h | h
        · exact .inl h
        · rcases List.mem_cons.mp h with rfl | h
          · by_cases hm : y ∈ kept
            · exact .inl hm
            · exact absurd ⟨hm, ht⟩ hb
          · exact .inr h)
  obtain ⟨ρ', e, kept, o2, rfl, _, hl, h1, h2, hR, hN⟩ := key (sortT rows) [some (.d (lt rows)), some (.own []), none, none] ⟨[], none, rfl, fun x hx => mem_sortT.mp hx, by rw [(sortT_perm rows).length_eq]; simp, by simp, fun x hx _ => .inr (mem_sortT.mpr hx), Run.start (sortT_le rows), by simp⟩
  refine ⟨kept, ?_, fun x => ⟨h1 x, fun ⟨a, b⟩ => (h2 x a b).elim (fun h => h) (fun h => by simp at h)⟩, asd_of hR.1 hN, by simpa using hl⟩
  simp [g_law_antichain, e]
end LW

set_option Elab.async false
set_option maxRecDepth 100000
set_option linter.all false
set_option maxHeartbeats 2000000
namespace LW
open PySem PySem.Spec PyProof.Rows L2 PD
theorem longest : ∀ {rows : List (List Int)}, rows ≠ [] → ∃ x ∈ rows, ∀ o ∈ rows, o.length ≤ x.length
  | [], h => absurd rfl h
  | [r], _ => ⟨r, by simp, fun o ho => by rw [List.mem_singleton.mp ho]; exact Nat.le_refl _⟩
  | r :: s :: t, _ => by
    obtain ⟨x, h1, h2⟩ := longest (rows := s :: t) (by simp)
    by_cases e : r.length ≤ x.length
    · exact ⟨x, List.mem_cons_of_mem _ h1, fun o ho => (List.mem_cons.mp ho).elim (fun z => by rw [z]; exact e) (h2 o)⟩
    · exact ⟨r, List.mem_cons_self, fun o ho => (List.mem_cons.mp ho).elim (fun z => by rw [z]; exact Nat.le_refl _) fun z => by have := h2 o z; omega⟩
theorem top_some {n : Int} {rows : List (List Int)} (hr : ∀ r ∈ rows, Asc n r) (h : rows ≠ []) : ∃ x ∈ rows, Top rows x := by
  obtain ⟨x, h1, h2⟩ := longest h
  refine ⟨x, h1, fun o ho e hall => e ?_⟩
  have s := asc_sub (hr x h1).1 (hr o ho).1 hall
  exact s.eq_of_length (Nat.le_antisymm s.length_le (h2 o ho))
theorem v_smooth2 (c n : Int) (h0 : 0 ≤ n) (h1 : n ≤ 9) : ∃ ks : List (List Int), m_law_smooth_lots [.int c, .int n] = .ok (tt ks) ∧ Smooth n ks := by
  show ∃ ks : List (List Int), endR (g_law_smooth_lots [some (.d (.int c)), some (.d (.int n)), none, none, none, none, none, none, none, none, none]) = _ ∧ _
  obtain ⟨L, e1, hL, bL⟩ := v_draws c (3 + n) (by omega) (by omega)
  have hLn : (L.length : Int) = 3 + n := by rw [hL]; omega
  obtain ⟨rows, e2, hr, hz2, hs⟩ := v_parts2 n h0 (by omega)
  have hz : rows.length ≤ 512 := by
    rw [hz2]
    have hp : 2 ^ n.toNat ≤ 2 ^ 9 := Nat.pow_le_pow_right (by decide) (by omega)
    omega
  have e30 := ix_li (L := L) (i := 0) (by decide) (by omega)
  have e31 := ix_li (L := L) (i := 1) (by decide) (by omega)
  have e32 := ix_li (L := L) (i := 2) (by decide) (by omega)
  generalize hcl : (rangeI 0 n).map (fun k => (ixv L (3 + k)).fmod 3) = cl
  have lcl : (cl.length : Int) = n := by rw [← hcl, List.length_map, rangeI_len]; omega
  generalize hb0 : 1 + (ixv L 1).fmod 2 = B0
  generalize hb1 : 1 + ((ixv L 1).fdiv 2).fmod 2 = B1
  generalize hb2 : ((ixv L 1).fdiv 4).fmod 3 = B2
  have er := rngA1_ok (n := n) (by omega) (by omega)
  have er3 := rngA1_ok (n := 3) (by decide) (by decide)
  let fit : List Int → Bool := fun row => (rangeI 0 3).all fun k => decide (((row.filter fun x => ixv cl x == k).length : Int) ≤ ixv [B0, B1, B2] k)
  have key := forGo_inv (i := 6) (g := b_law_smooth_lots_1) (enc := tu) (fun xs ρ => ∃ (kept : List (List Int)) (o6 : Option Sl), ρ = [some (.d (.int c)), some (.d (.int n)), some (.d (li L)), some (.d (li cl)), some (.d (li [B0, B1, B2])), some (.own (kept.map tu)), o6, none, none, none, none] ∧
      (∀ x ∈ xs, Asc n x) ∧ kept.length + xs.length ≤ 512 ∧ (∀ x ∈ kept, Asc n x) ∧ (∀ r, Asc n r → fit r = true → r ∈ kept ∨ r ∈ xs) ∧ Run (fun a b => HT.lexLt a b = true) kept xs ∧ ∀ r ∈ kept, fit r = true) (by
    rintro x xs ρ ⟨kept, o6, rfl, hx, hl, hk, hf, hR, hF⟩
    have hl' : kept.length + (xs.length + 1) ≤ 512 := by simpa using hl
    have hs : kept.length < sizeLine := line_lt (by omega)
    have hxa := hx x List.mem_cons_self
    have et : lcR (fun _ => R.ok true) (fun k : Int => m_law_count [tu x, li cl, .int k] >>= fun a => oIx (li [B0, B1, B2]) (.int k) >>= fun b => oLe a b) (rangeI 0 3) = .ok ((rangeI 0 3).map fun k => PyData.bool (decide (((x.filter fun y => ixv cl y == k).length : Int) ≤ ixv [B0, B1, B2] k))) := lcR_mem fun k hk => by
      obtain ⟨k1, k2⟩ := mem_rangeI.mp hk
      simp [v_count x cl k (fun y hy => by have := hxa.2 y hy; omega), ix_li (L := [B0, B1, B2]) (i := k) k1 (by simpa using k2)]
    by_cases hb : fit x = true
    · refine ⟨[some (.d (.int c)), some (.d (.int n)), some (.d (li L)), some (.d (li cl)), some (.d (li [B0, B1, B2])), some (.own ((kept ++ [x]).map tu)), some (.d (tu x)), none, none, none, none], ?_, kept ++ [x], _, rfl, fun y hy => hx y (List.mem_cons_of_mem _ hy), by simp; omega, fun y hy => ?_, fun r ha hr => ?_, hR.keep, fun r hr => (List.mem_append.mp hr).elim (hF r) fun z => by rw [List.mem_singleton.mp z]; exact hb⟩
      · have hb' : ∀ k ∈ rangeI 0 3, ((x.filter fun y => ixv cl y == k).length : Int) ≤ ixv [B0, B1, B2] k := by simpa [fit] using hb
        simp [b_law_smooth_lots_1, er3, et, hs]
        exact hb'
      · rcases List.mem_append.mp hy with hy | hy
        · exact hk y hy
        · rw [List.mem_singleton.mp hy]; exact hxa
      · rcases hf r ha hr with h | h
        · exact .inl (List.mem_append_left _ h)
        · rcases List.mem_cons.mp h with rfl | h
          · exact .inl (by simp)
          · exact .inr h
    · refine ⟨[some (.d (.int c)), some (.d (.int n)), some (.d (li L)), some (.d (li cl)), some (.d (li [B0, B1, B2])), some (.own (kept.map tu)), some (.d (tu x)), none, none, none, none], ?_, kept, _, rfl, fun y hy => hx y (List.mem_cons_of_mem _ hy), by omega, hk, fun r ha hr => ?_, hR.skip, hF⟩
      rotate_left
      · rcases hf r ha hr with h | h
        · exact .inl h
        · rcases List.mem_cons.mp h with rfl | h
          · exact absurd hr hb
          · exact .inr h
      have hb' : ¬ ∀ k ∈ rangeI 0 3, ((x.filter fun y => ixv cl y == k).length : Int) ≤ ixv [B0, B1, B2] k := fun h => hb (by simpa [fit] using h)
      simp [b_law_smooth_lots_1, er3, et, hs]
      refine Classical.byContradiction fun hc => hb' fun k hk2 => ?_
      exact Classical.byContradiction fun hn => hc ⟨k, hk2, by omega⟩)
  obtain ⟨ρ', e, kept, o6, rfl, _, hl, hk, hf, hR, hF⟩ := key rows [some (.d (.int c)), some (.d (.int n)), some (.d (li L)), some (.d (li cl)), some (.d (li [B0, B1, B2])), some (.own []), none, none, none, none, none]
    ⟨[], none, rfl, fun x hx => (hr x).mp hx, by simpa using hz, by simp, fun r ha _ => .inr ((hr r).mpr ha), Run.start hs, by simp⟩
  have hB0 : 0 ≤ B0 := by have := fmod_lo (ixv L 1) (b := 2) (by decide); omega
  have hB1 : 0 ≤ B1 := by have := fmod_lo ((ixv L 1).fdiv 2) (b := 2) (by decide); omega
  have hB2 : 0 ≤ B2 := by have := fmod_lo ((ixv L 1).fdiv 4) (b := 3) (by decide); omega
  have fit0 : fit [] = true := by
    show ((rangeI 0 3).all fun k => decide (((([] : List Int).filter fun x => ixv cl x == k).length : Int) ≤ ixv [B0, B1, B2] k)) = true
    rw [List.all_eq_true]
    intro k hk2
    obtain ⟨k1, k2⟩ := mem_rangeI.mp hk2
    have this : ixv [B0, B1, B2] k ∈ [B0, B1, B2] := ixv_mem k1 (by simpa using k2)
    simp only [List.mem_cons, List.not_mem_nil, or_false] at this
    refine decide_eq_true ?_
    show (0 : Int) ≤ _
    rcases this with h | h | h <;> omega
  have hne : kept ≠ [] := fun z => by
    rcases hf [] (Asc.nil n) fit0 with h | h
    · rw [z] at h; cases h
    · cases h
  have hmx := bMax_li (l := kept.map fun r => (r.length : Int)) (by simpa using hne)
  generalize hM : maxI (kept.map fun r => (r.length : Int)) = M at hmx
  have f8a := fmod_lo (ixv L 0) (b := 8) (by decide)
  have f8b := fmod_hi (ixv L 0) (b := 8) (by decide)
  have e8 := ix_tu (L := [2, 1, 2, 3, 2, 1, 3, 0]) (i := (ixv L 0).fmod 8) f8a (by simpa using f8b)
  have mT : ixv [2, 1, 2, 3, 2, 1, 3, 0] ((ixv L 0).fmod 8) ∈ [2, 1, 2, 3, 2, 1, 3, 0] := ixv_mem f8a (by simpa using f8b)
  generalize ixv [2, 1, 2, 3, 2, 1, 3, 0] ((ixv L 0).fmod 8) = T at e8 mT
  generalize hC : (if T < M then T else M) = C
  have hT : 0 ≤ T := by
    simp only [List.mem_cons, List.not_mem_nil, or_false] at mT
    omega
  have hmm : ∃ top ∈ kept, (top.length : Int) = M := by
    have := maxI_mem (ns := kept.map fun r => (r.length : Int)) (by rw [List.length_map]; exact List.length_pos_iff.mpr hne)
    rw [hM] at this
    exact List.mem_map.mp this
  have hfit : ∀ r : List Int, fit r = true ↔ Fit (fun x => ixv cl x) (fun k => ixv [B0, B1, B2] k) r := fun r => by
    show ((rangeI 0 3).all fun k => decide (((r.filter fun x => ixv cl x == k).length : Int) ≤ ixv [B0, B1, B2] k)) = true ↔ _
    rw [List.all_eq_true]
    constructor
    · intro z k k0 k1
      exact of_decide_eq_true (z k (mem_rangeI.mpr ⟨k0, k1⟩))
    · intro z k hk
      exact decide_eq_true (z k (mem_rangeI.mp hk).1 (mem_rangeI.mp hk).2)
  have hcr : ∀ x, 0 ≤ x → x < n → 0 ≤ ixv cl x ∧ ixv cl x < 3 := fun x x0 x1 => by
    have m : ixv cl x ∈ cl := ixv_mem x0 (by omega)
    generalize ixv cl x = u at m ⊢
    rw [← hcl] at m
    obtain ⟨k, _, rfl⟩ := List.mem_map.mp m
    exact ⟨fmod_lo _ (by decide), fmod_hi _ (by decide)⟩
  have mem : ∀ r, r ∈ (kept.filter fun r => (r.length : Int) == C) ↔ Asc n r ∧ fit r = true ∧ (r.length : Int) = C := fun r => by
    rw [List.mem_filter]
    constructor
    · rintro ⟨a, b⟩
      exact ⟨hk r a, hF r a, by simpa using b⟩
    · rintro ⟨a, b, d⟩
      exact ⟨(hf r a b).elim id (fun z => by cases z), by simpa using d⟩
  have base : Smooth n (kept.filter fun r => (r.length : Int) == C) := by
    refine ⟨⟨fun l hl => ((mem l).mp hl).1, (hR.1 : Asd kept).filter _, fun z => ?_, ?_⟩, fun l hl x hx o ho nx => ?_, fun l hl k hk2 => ?_⟩
    · obtain ⟨top, t1, t2⟩ := hmm
      have c0 : 0 ≤ C ∧ C ≤ top.length := by
        rw [← hC]
        split <;> omega
      have : top.take C.toNat ∈ (kept.filter fun r => (r.length : Int) == C) := (mem _).mpr ⟨asc_take (hk top t1) _, (hfit _).mpr (fit_take ((hfit _).mp (hF top t1)) _), by rw [List.length_take]; omega⟩
      rw [z] at this
      cases this
    · have a := List.length_filter_le (fun r : List Int => (r.length : Int) == C) kept
      have : kept.length ≤ 512 := by simpa using hl
      omega
    · obtain ⟨la, lf, ll⟩ := (mem l).mp hl
      obtain ⟨oa, of, ol⟩ := (mem o).mp ho
      obtain ⟨t, t1, t2, t3, t4, t5⟩ := fit_exc hcr la oa ((hfit l).mp lf) ((hfit o).mp of) (by omega) hx nx
      exact ⟨t, t1, t2, (mem _).mpr ⟨t3, (hfit _).mpr t4, by rw [t5]; exact ll⟩⟩
    · have a := ((mem l).mp hl).2.2
      have b := ((mem k).mp hk2).2.2
      omega
  have hrest : ∀ ls : List (List Int), lcR (fun _ => R.ok true) (fun l => m_law_rest [tu l, .int n]) ls = .ok (ls.map fun l => tu ((rangeI 0 n).filter fun x => !decide (x ∈ l))) := fun ls => lcR_mem fun l _ => v_rest l n h0 (by omega)
  by_cases h3 : (ixv L 2).fmod 3 = 1
  · refine ⟨sortT ((kept.filter fun r => (r.length : Int) == C).map fun l => (rangeI 0 n).filter fun x => !decide (x ∈ l)), ?_, ?_⟩
    · simp [g_law_smooth_lots, e1, er]
      rw [lcR_mem (g := fun k => PyData.int ((ixv L (3 + k)).fmod 3))]
      · simp [e2, e30, e31, e32, hcl, oMod_int, oDiv_lit, hb0, hb1, hb2, e, hmx, e8, hC, h3, hrest]
      · intro k hk3
        obtain ⟨k1, k2⟩ := mem_rangeI.mp hk3
        simp [ix_li (L := L) (i := 3 + k) (by omega) (by omega), oMod_int]
    · exact base.opp
  · refine ⟨kept.filter fun r => (r.length : Int) == C, ?_, base⟩
    simp [g_law_smooth_lots, e1, er]
    rw [lcR_mem (g := fun k => PyData.int ((ixv L (3 + k)).fmod 3))]
    · simp [e2, e30, e31, e32, hcl, oMod_int, oDiv_lit, hb0, hb1, hb2, e, hmx, e8, hC, h3, hrest]
    · intro k hk3
      obtain ⟨k1, k2⟩ := mem_rangeI.mp hk3
      simp [ix_li (L := L) (i := 3 + k) (by omega) (by omega), oMod_int]
theorem v_any2 (c n : Int) (h0 : 0 ≤ n) (h1 : n ≤ 12) : ∃ ks : List (List Int), m_law_any_lots [.int c, .int n] = .ok (tt ks) ∧ Good n ks := by
  show ∃ ks : List (List Int), endR (g_law_any_lots [some (.d (.int c)), some (.d (.int n)), none, none, none, none]) = _ ∧ _
  obtain ⟨L, e1, hL, bL⟩ := v_draws c 7 (by decide) (by decide)
  have hL7 : L.length = 7 := hL
  obtain ⟨rows, e2, hr, hz, _⟩ := v_parts2 n h0 h1
  have e3 := ix_li (L := L) (i := 0) (by decide) (by omega)
  generalize ixv L 0 = d0 at e3
  have b1 := fmod_lo d0 (b := 6) (by decide)
  have b2 := fmod_hi d0 (b := 6) (by decide)
  have hne : 0 < rows.length := List.length_pos_of_mem ((hr []).mpr (Asc.nil n))
  have e5 := rngA1_ok (n := 1 + d0.fmod 6) (by omega) (by omega)
  have f1 : ∀ a : Int, 0 ≤ a.fmod rows.length ∧ a.fmod rows.length < rows.length := fun a => ⟨fmod_lo a (by omega), fmod_hi a (by omega)⟩
  obtain ⟨ks, e6, h6, hA, hL⟩ := v_antichain2 ((rangeI 0 (1 + d0.fmod 6)).map fun k => ixr rows ((ixv L (1 + k)).fmod rows.length)) (by rw [List.length_map, rangeI_len]; omega)
  have mrow : ∀ r ∈ (rangeI 0 (1 + d0.fmod 6)).map fun k => ixr rows ((ixv L (1 + k)).fmod rows.length), Asc n r := fun r q => by
    obtain ⟨j, hj, rfl⟩ := List.mem_map.mp q
    exact (hr _).mp (ixr_mem (f1 _).1 (f1 _).2)
  have nrow : ((rangeI 0 (1 + d0.fmod 6)).map fun k => ixr rows ((ixv L (1 + k)).fmod rows.length)) ≠ [] := fun z => by
    have := congrArg List.length z
    rw [List.length_map, rangeI_len] at this
    simp at this
    omega
  rw [List.length_map, rangeI_len] at hL
  refine ⟨ks, ?_, ⟨fun k hk => mrow k ((h6 k).mp hk).1, hA, fun z => ?_, by omega⟩⟩
  · simp [g_law_any_lots, e1, e2, e3, oMod_int, e5]
    rw [lcR_mem (g := fun k => tu (ixr rows ((ixv L (1 + k)).fmod rows.length)))]
    · simp [e6]
    · intro k hk
      obtain ⟨k1, k2⟩ := mem_rangeI.mp hk
      have n0 : (rows.length : Int) ≠ 0 := by omega
      simp [ix_li (L := L) (i := 1 + k) (by omega) (by omega), oMod_int n0, ix_lt (f1 _).1 (f1 _).2]
  · obtain ⟨x, x1, x2⟩ := top_some mrow nrow
    have := (h6 x).mpr ⟨x1, x2⟩
    rw [z] at this
    cases this
theorem v_lots2 (c n : Int) (h0 : 0 ≤ n) (h1 : n ≤ 9) : ∃ ks : List (List Int), m_law_lots [.int c, .int n] = .ok (tt ks) ∧ Good n ks := by
  show ∃ ks : List (List Int), endR (g_law_lots [some (.d (.int c)), some (.d (.int n))]) = _ ∧ _
  obtain ⟨L, e1, hL, bL⟩ := v_draws c 3 (by decide) (by decide)
  have hL3 : L.length = 3 := hL
  have e32 := ix_li (L := L) (i := 2) (by decide) (by omega)
  by_cases h : ((ixv L 2).fdiv 3).fmod 2 = 0
  · obtain ⟨ks, e, hk⟩ := v_smooth2 c n h0 h1
    refine ⟨ks, ?_, hk.good⟩
    simp [g_law_lots, e1, e32, oDiv_lit, oMod_int, h, e]
  · obtain ⟨ks, e, hk⟩ := v_any2 c n h0 (by omega)
    refine ⟨ks, ?_, hk⟩
    simp [g_law_lots, e1, e32, oDiv_lit, oMod_int, h, e]
end LW

set_option Elab.async false
set_option maxRecDepth 100000
set_option linter.all false
set_option maxHeartbeats 2000000
namespace LW
open PySem PySem.Spec PyProof.Rows L2 PD

def Road (p : Int) (r : List Int) : Prop := ∃ a b : Int, r = [a, b] ∧ (0 ≤ a ∧ a < p) ∧ (0 ≤ b ∧ b < p)
/-! ### labels of points that roads join -/
theorem nodup_sub_len {α : Type} [DecidableEq α] : ∀ {l k : List α}, l.Nodup → (∀ x ∈ l, x ∈ k) → l.length ≤ k.length
  | [], k, _, _ => Nat.zero_le _
  | a :: l, k, nd, h => by
    obtain ⟨n1, n2⟩ := List.nodup_cons.mp nd
    have ha := h a List.mem_cons_self
    have ih := nodup_sub_len (k := k.erase a) n2 fun x hx => (List.mem_erase_of_ne (fun e => n1 (by rw [← e]; exact hx))).mpr (h x (List.mem_cons_of_mem _ hx))
    rw [List.length_erase_of_mem ha] at ih
    have := List.length_pos_of_mem ha
    rw [List.length_cons]; omega
/-- one more road: what had the first end's label gets the second end's -/
def joinL (lab : List Int) (r : List Int) : List Int := lab.map fun x => if x = ixv lab (ixv r 0) then ixv lab (ixv r 1) else x
def labs (roads : List (List Int)) (p : Int) (row : List Int) : List Int := row.foldl (fun lab t => joinL lab (ixr roads t)) (rangeI 0 p)
structure Lab (p : Int) (lab : List Int) : Prop where
  len : (lab.length : Int) = p
  bnd : ∀ v ∈ lab, 0 ≤ v ∧ v < p
def nlab (p : Int) (lab : List Int) : Nat := ((rangeI 0 p).filter fun v => decide (v ∈ lab)).length
theorem ixv_map {lab : List Int} {f : Int → Int} {i : Int} (h0 : 0 ≤ i) (h1 : i < (lab.length : Int)) : ixv (lab.map f) i = f (ixv lab i) := by
  have hl : i.toNat < lab.length := by omega
  unfold ixv
  rw [List.getElem?_map, List.getElem?_eq_getElem hl]
  rfl
theorem ixv_range {p i : Int} (h0 : 0 ≤ i) (h1 : i < p) : ixv (rangeI 0 p) i = i := by
  unfold ixv rangeI
  rw [List.getElem?_map, List.getElem?_range (by omega)]
  show 0 + ((i.toNat : Nat) : Int) = i
  omega
theorem mem_ixv {l : List Int} {v : Int} (h : v ∈ l) : ∃ i, 0 ≤ i ∧ i < (l.length : Int) ∧ ixv l i = v := by
  obtain ⟨j, hj, e⟩ := List.getElem_of_mem h
  refine ⟨j, by omega, by omega, ?_⟩
  unfold ixv
  rw [show ((j : Int)).toNat = j by omega, List.getElem?_eq_getElem hj, e]
  rfl
theorem Lab.start {p : Int} (h : 0 ≤ p) : Lab p (rangeI 0 p) := ⟨by rw [rangeI_len]; omega, fun v hv => mem_rangeI.mp hv⟩
theorem Road.at {p : Int} {r : List Int} (h : Road p r) : (0 ≤ ixv r 0 ∧ ixv r 0 < p) ∧ (0 ≤ ixv r 1 ∧ ixv r 1 < p) := by
  obtain ⟨a, b, rfl, ha, hb⟩ := h
  exact ⟨ha, hb⟩
theorem Lab.join {p : Int} {lab r : List Int} (h : Lab p lab) (hr : Road p r) : Lab p (joinL lab r) := by
  refine ⟨by unfold joinL; rw [List.length_map]; exact h.len, fun v hv => ?_⟩
  obtain ⟨x, hx, rfl⟩ := List.mem_map.mp hv
  have hb := hr.at
  split
  · exact h.bnd _ (ixv_mem hb.2.1 (by rw [h.len]; exact hb.2.2))
  · exact h.bnd _ hx
theorem join_at {p : Int} {lab r : List Int} (h : Lab p lab) {i : Int} (h0 : 0 ≤ i) (h1 : i < p) : ixv (joinL lab r) i = if ixv lab i = ixv lab (ixv r 0) then ixv lab (ixv r 1) else ixv lab i := ixv_map h0 (by rw [h.len]; exact h1)
theorem join_ends {p : Int} {lab r : List Int} (h : Lab p lab) (hr : Road p r) : ixv (joinL lab r) (ixv r 0) = ixv (joinL lab r) (ixv r 1) := by
  obtain ⟨⟨a0, a1⟩, b0, b1⟩ := hr.at
  rw [join_at h a0 a1, join_at h b0 b1, if_pos rfl]
  split <;> rfl
theorem join_keep {p : Int} {lab r : List Int} (h : Lab p lab) {i j : Int} (h0 : 0 ≤ i) (h1 : i < p) (j0 : 0 ≤ j) (j1 : j < p) (e : ixv lab i = ixv lab j) : ixv (joinL lab r) i = ixv (joinL lab r) j := by
  rw [join_at h h0 h1, join_at h j0 j1, e]
/-- g tells two points apart that the labels tell apart -/
def Fine (p : Int) (lab g : List Int) : Prop := ∀ i j, 0 ≤ i → i < p → 0 ≤ j → j < p → ixv lab i = ixv lab j → ixv g i = ixv g j
theorem Fine.join {p : Int} {lab r g : List Int} (h : Lab p lab) (hr : Road p r) (f : Fine p lab g) (e : ixv g (ixv r 0) = ixv g (ixv r 1)) : Fine p (joinL lab r) g := by
  obtain ⟨⟨a0, a1⟩, b0, b1⟩ := hr.at
  intro i j i0 i1 j0 j1 q
  rw [join_at h i0 i1, join_at h j0 j1] at q
  by_cases hi : ixv lab i = ixv lab (ixv r 0)
  · rw [if_pos hi] at q
    by_cases hj : ixv lab j = ixv lab (ixv r 0)
    · exact f i j i0 i1 j0 j1 (hi.trans hj.symm)
    · rw [if_neg hj] at q
      exact (f i _ i0 i1 a0 a1 hi).trans (e.trans (f _ j b0 b1 j0 j1 q))
  · rw [if_neg hi] at q
    by_cases hj : ixv lab j = ixv lab (ixv r 0)
    · rw [if_pos hj] at q
      exact (f i _ i0 i1 b0 b1 q).trans (e.symm.trans (f _ j a0 a1 j0 j1 hj.symm))
    · rw [if_neg hj] at q
      exact f i j i0 i1 j0 j1 q
section
variable {roads : List (List Int)} {p : Int}
def RoadsOk (roads : List (List Int)) (p : Int) (row : List Int) : Prop := ∀ t ∈ row, Road p (ixr roads t)
theorem lab_from (hp : 0 ≤ p) : ∀ {row lab : List Int}, Lab p lab → RoadsOk roads p row → Lab p (row.foldl (fun lab t => joinL lab (ixr roads t)) lab)
  | [], lab, h, _ => h
  | t :: row, lab, h, hr => lab_from hp (row := row) (lab := joinL lab (ixr roads t)) (h.join (hr t List.mem_cons_self)) fun u hu => hr u (List.mem_cons_of_mem _ hu)
theorem fine_from {g : List Int} : ∀ {row lab : List Int}, Lab p lab → RoadsOk roads p row → Fine p lab g → (∀ t ∈ row, ixv g (ixv (ixr roads t) 0) = ixv g (ixv (ixr roads t) 1)) → Fine p (row.foldl (fun lab t => joinL lab (ixr roads t)) lab) g
  | [], lab, _, _, f, _ => f
  | t :: row, lab, h, hr, f, e => fine_from (row := row) (lab := joinL lab (ixr roads t)) (h.join (hr t List.mem_cons_self)) (fun u hu => hr u (List.mem_cons_of_mem _ hu)) (f.join h (hr t List.mem_cons_self) (e t List.mem_cons_self)) fun u hu => e u (List.mem_cons_of_mem _ hu)
theorem keep_from {i j : Int} (i0 : 0 ≤ i) (i1 : i < p) (j0 : 0 ≤ j) (j1 : j < p) : ∀ {row lab : List Int}, Lab p lab → RoadsOk roads p row → ixv lab i = ixv lab j → ixv (row.foldl (fun lab t => joinL lab (ixr roads t)) lab) i = ixv (row.foldl (fun lab t => joinL lab (ixr roads t)) lab) j
  | [], lab, _, _, e => e
  | t :: row, lab, h, hr, e => keep_from i0 i1 j0 j1 (row := row) (lab := joinL lab (ixr roads t)) (h.join (hr t List.mem_cons_self)) (fun u hu => hr u (List.mem_cons_of_mem _ hu)) (join_keep h i0 i1 j0 j1 e)
theorem ends_from : ∀ {row lab : List Int}, Lab p lab → RoadsOk roads p row → ∀ t ∈ row, ixv (row.foldl (fun lab t => joinL lab (ixr roads t)) lab) (ixv (ixr roads t) 0) = ixv (row.foldl (fun lab t => joinL lab (ixr roads t)) lab) (ixv (ixr roads t) 1)
  | [], lab, _, _, t, ht => by cases ht
  | s :: row, lab, h, hr, t, ht => by
    have hs := hr s List.mem_cons_self
    rcases List.mem_cons.mp ht with rfl | ht
    · obtain ⟨⟨a0, a1⟩, b0, b1⟩ := hs.at
      exact keep_from a0 a1 b0 b1 (row := row) (lab := joinL lab (ixr roads t)) (h.join hs) (fun u hu => hr u (List.mem_cons_of_mem _ hu)) (join_ends h hs)
    · exact ends_from (row := row) (lab := joinL lab (ixr roads s)) (h.join hs) (fun u hu => hr u (List.mem_cons_of_mem _ hu)) t ht
theorem labs_lab (hp : 0 ≤ p) {row : List Int} (hr : RoadsOk roads p row) : Lab p (labs roads p row) := lab_from hp (Lab.start hp) hr
theorem labs_ends (hp : 0 ≤ p) {row : List Int} (hr : RoadsOk roads p row) {t : Int} (ht : t ∈ row) : ixv (labs roads p row) (ixv (ixr roads t) 0) = ixv (labs roads p row) (ixv (ixr roads t) 1) := ends_from (Lab.start hp) hr t ht
theorem labs_fine (hp : 0 ≤ p) {row g : List Int} (hr : RoadsOk roads p row) (e : ∀ t ∈ row, ixv g (ixv (ixr roads t) 0) = ixv g (ixv (ixr roads t) 1)) : Fine p (labs roads p row) g :=
  fine_from (Lab.start hp) hr (fun i j i0 i1 j0 j1 q => by rw [ixv_range i0 i1, ixv_range j0 j1] at q; rw [q]) e
theorem nlab_le {lab g : List Int} (hg : Lab p g) (hl : Lab p lab) (f : Fine p lab g) : nlab p g ≤ nlab p lab := by
  -- each label of g at one of its points, and the other label there
  have pick : ∀ v : Int, ∃ i : Int, v ∈ g → 0 ≤ i ∧ i < p ∧ ixv g i = v := fun v => by
    by_cases h : v ∈ g
    · obtain ⟨i, a, b, c⟩ := mem_ixv h
      exact ⟨i, fun _ => ⟨a, by rw [← hg.len]; exact b, c⟩⟩
    · exact ⟨0, fun z => absurd z h⟩
  let at_ : Int → Int := fun v => Classical.choose (pick v)
  have hat : ∀ v, v ∈ g → 0 ≤ at_ v ∧ at_ v < p ∧ ixv g (at_ v) = v := fun v => Classical.choose_spec (pick v)
  have key := nodup_sub_len (l := ((rangeI 0 p).filter fun v => decide (v ∈ g)).map fun v => ixv lab (at_ v)) (k := (rangeI 0 p).filter fun v => decide (v ∈ lab)) ?_ ?_
  · rw [List.length_map] at key
    exact key
  · refine List.pairwise_map.mpr ?_
    have nd : ((rangeI 0 p).filter fun v => decide (v ∈ g)).Pairwise (· ≠ ·) := ((rangeI_asc 0 p).imp fun {a b} z e => by omega).filter _
    refine List.Pairwise.imp_of_mem (fun {a b} ha hb ne e => ne ?_) nd
    have ga := hat a (by simpa using (List.mem_filter.mp ha).2)
    have gb := hat b (by simpa using (List.mem_filter.mp hb).2)
    have := f _ _ ga.1 ga.2.1 gb.1 gb.2.1 e
    rw [ga.2.2, gb.2.2] at this
    exact this
  · intro x hx
    obtain ⟨v, hv, rfl⟩ := List.mem_map.mp hx
    have gv := hat v (by simpa using (List.mem_filter.mp hv).2)
    have m : ixv lab (at_ v) ∈ lab := ixv_mem gv.1 (by rw [hl.len]; exact gv.2.1)
    exact List.mem_filter.mpr ⟨mem_rangeI.mpr (hl.bnd _ m), by simpa using m⟩
theorem nlab_join {lab r : List Int} (h : Lab p lab) (hr : Road p r) : nlab p lab = nlab p (joinL lab r) + if ixv lab (ixv r 0) = ixv lab (ixv r 1) then 0 else 1 := by
  obtain ⟨⟨a0, a1⟩, b0, b1⟩ := hr.at
  have mu : ixv lab (ixv r 0) ∈ lab := ixv_mem a0 (by rw [h.len]; exact a1)
  have mv : ixv lab (ixv r 1) ∈ lab := ixv_mem b0 (by rw [h.len]; exact b1)
  have mem : ∀ x, x ∈ joinL lab r ↔ x = ixv lab (ixv r 1) ∨ (x ∈ lab ∧ ¬ x = ixv lab (ixv r 0)) := fun x => by
    unfold joinL
    rw [List.mem_map]
    constructor
    · rintro ⟨y, hy, rfl⟩
      by_cases e : y = ixv lab (ixv r 0)
      · rw [if_pos e]; exact .inl rfl
      · rw [if_neg e]; exact .inr ⟨hy, e⟩
    · rintro (rfl | ⟨hx, ne⟩)
      · exact ⟨_, mu, if_pos rfl⟩
      · exact ⟨x, hx, if_neg ne⟩
  generalize ixv lab (ixv r 0) = u at mu mem
  generalize ixv lab (ixv r 1) = v at mv mem
  unfold nlab
  by_cases e : u = v
  · rw [if_pos e]
    subst e
    have : (fun x => decide (x ∈ lab)) = fun x => decide (x ∈ joinL lab r) := by
      funext x
      refine decide_eq_decide.mpr ?_
      rw [mem]
      constructor
      · intro hx
        by_cases q : x = u
        · exact .inl q
        · exact .inr ⟨hx, q⟩
      · rintro (rfl | ⟨hx, _⟩)
        · exact mv
        · exact hx
    rw [this]; rfl
  · rw [if_neg e]
    -- u is lost
    have hu := h.bnd u mu
    have cnt : ∀ R : List Int, R.Nodup → (R.filter fun x => decide (x ∈ lab)).length = (R.filter fun x => decide (x ∈ joinL lab r)).length + if u ∈ R then 1 else 0 := by
      intro R
      induction R with
      | nil => intro _; rfl
      | cons a R ih =>
        intro nd
        obtain ⟨n1, n2⟩ := List.nodup_cons.mp nd
        have ih := ih n2
        by_cases ha : a = u
        · subst ha
          have c1 : a ∈ lab := mu
          have c2 : ¬ a ∈ joinL lab r := fun z => (mem a).mp z |>.elim e fun q => q.2 rfl
          rw [if_neg n1] at ih
          rw [List.filter_cons_of_pos (by simpa using c1), List.filter_cons_of_neg (by simpa using c2), List.length_cons, ih, if_pos List.mem_cons_self]
        · have c : (a ∈ lab) ↔ a ∈ joinL lab r := by
            rw [mem]
            exact ⟨fun z => .inr ⟨z, ha⟩, fun z => z.elim (fun q => by rw [q]; exact mv) fun q => q.1⟩
          have hm : (u ∈ a :: R) ↔ u ∈ R := ⟨fun z => (List.mem_cons.mp z).resolve_left fun q => ha q.symm, List.mem_cons_of_mem _⟩
          simp only [hm]
          by_cases ca : a ∈ lab
          · rw [List.filter_cons_of_pos (by simpa using ca), List.filter_cons_of_pos (by simpa using c.mp ca), List.length_cons, List.length_cons, ih]; omega
          · rw [List.filter_cons_of_neg (by simpa using ca), List.filter_cons_of_neg (by simpa using fun z => ca (c.mpr z)), ih]
    have := cnt (rangeI 0 p) ((rangeI_asc 0 p).imp fun {a b} z e => by omega)
    rw [if_pos (mem_rangeI.mpr hu)] at this
    exact this
/-- no road of the row joins what is joined already -/
def forB (roads : List (List Int)) : List Int → List Int → Bool
  | [], _ => true
  | t :: row, lab => !decide (ixv lab (ixv (ixr roads t) 0) = ixv lab (ixv (ixr roads t) 1)) && forB roads row (joinL lab (ixr roads t))
theorem forB_count : ∀ {row lab : List Int}, Lab p lab → RoadsOk roads p row → nlab p lab ≤ nlab p (row.foldl (fun lab t => joinL lab (ixr roads t)) lab) + row.length ∧ (forB roads row lab = true ↔ nlab p lab = nlab p (row.foldl (fun lab t => joinL lab (ixr roads t)) lab) + row.length)
  | [], lab, _, _ => ⟨Nat.le_refl _, by simp [forB]⟩
  | t :: row, lab, h, hr => by
    have ht := hr t List.mem_cons_self
    obtain ⟨i1, i2⟩ := forB_count (row := row) (lab := joinL lab (ixr roads t)) (h.join ht) fun u hu => hr u (List.mem_cons_of_mem _ hu)
    have e := nlab_join h ht
    unfold forB
    rw [List.foldl_cons, List.length_cons]
    generalize nlab p (row.foldl (fun lab t => joinL lab (ixr roads t)) (joinL lab (ixr roads t))) = N at i1 i2 ⊢
    by_cases q : ixv lab (ixv (ixr roads t) 0) = ixv lab (ixv (ixr roads t) 1)
    · rw [if_pos q] at e
      refine ⟨by omega, ?_⟩
      rw [decide_eq_true q]
      simp
      omega
    · rw [if_neg q] at e
      refine ⟨by omega, ?_⟩
      rw [decide_eq_false q]
      simp
      rw [i2]
      omega
def forest (roads : List (List Int)) (p : Int) (row : List Int) : Bool := forB roads row (rangeI 0 p)
theorem nlab_start (hp : 0 ≤ p) : nlab p (rangeI 0 p) = p.toNat := by
  unfold nlab
  rw [List.filter_eq_self.mpr (fun v hv => by simpa using hv), rangeI_len]
  simp
theorem forest_iff (hp : 0 ≤ p) {row : List Int} (hr : RoadsOk roads p row) : forest roads p row = true ↔ nlab p (labs roads p row) + row.length = p.toNat := by
  have := (forB_count (Lab.start hp) hr).2
  rw [nlab_start hp] at this
  exact this.trans eq_comm
theorem forest_le (hp : 0 ≤ p) {row : List Int} (hr : RoadsOk roads p row) : p.toNat ≤ nlab p (labs roads p row) + row.length := by
  have := (forB_count (Lab.start hp) hr).1
  rwa [nlab_start hp] at this
/-- the labels of a set of roads, whatever its order -/
theorem nlab_same (hp : 0 ≤ p) {row row' : List Int} (hr : RoadsOk roads p row) (hr' : RoadsOk roads p row') (h : ∀ t, t ∈ row ↔ t ∈ row') : nlab p (labs roads p row) = nlab p (labs roads p row') :=
  Nat.le_antisymm (nlab_le (labs_lab hp hr) (labs_lab hp hr') (labs_fine hp hr' fun t ht => labs_ends hp hr ((h t).mpr ht))) (nlab_le (labs_lab hp hr') (labs_lab hp hr) (labs_fine hp hr fun t ht => labs_ends hp hr' ((h t).mp ht)))
/-- of a greater forest some road goes between what the smaller one leaves apart -/
theorem forest_more (hp : 0 ≤ p) {l o : List Int} (hl : RoadsOk roads p l) (ho : RoadsOk roads p o) (fl : forest roads p l = true) (fo : forest roads p o = true) (h : l.length < o.length) : ∃ t ∈ o, ¬ ixv (labs roads p l) (ixv (ixr roads t) 0) = ixv (labs roads p l) (ixv (ixr roads t) 1) := by
  refine Classical.byContradiction fun z => ?_
  have e : ∀ t ∈ o, ixv (labs roads p l) (ixv (ixr roads t) 0) = ixv (labs roads p l) (ixv (ixr roads t) 1) := fun t ht => Classical.byContradiction fun q => z ⟨t, ht, q⟩
  have := nlab_le (labs_lab hp hl) (labs_lab hp ho) (labs_fine hp ho e)
  have a := (forest_iff hp hl).mp fl
  have b := (forest_iff hp ho).mp fo
  omega
theorem labs_snoc {row : List Int} {t : Int} : labs roads p (row ++ [t]) = joinL (labs roads p row) (ixr roads t) := by
  unfold labs
  rw [List.foldl_append]
  rfl
theorem forest_snoc (hp : 0 ≤ p) {row : List Int} {t : Int} (hr : RoadsOk roads p row) (ht : Road p (ixr roads t)) : forest roads p (row ++ [t]) = true ↔ forest roads p row = true ∧ ¬ ixv (labs roads p row) (ixv (ixr roads t) 0) = ixv (labs roads p row) (ixv (ixr roads t) 1) := by
  have hr2 : RoadsOk roads p (row ++ [t]) := fun u hu => (List.mem_append.mp hu).elim (hr u) fun z => by rw [List.mem_singleton.mp z]; exact ht
  rw [forest_iff hp hr2, forest_iff hp hr, labs_snoc, List.length_append, List.length_singleton]
  have e := nlab_join (labs_lab hp hr) ht
  have le := forest_le hp hr
  have le2 := forest_le hp hr2
  rw [labs_snoc, List.length_append, List.length_singleton] at le2
  by_cases q : ixv (labs roads p row) (ixv (ixr roads t) 0) = ixv (labs roads p row) (ixv (ixr roads t) 1)
  · rw [if_pos q] at e
    constructor
    · intro z; omega
    · exact fun z => absurd q z.2
  · rw [if_neg q] at e
    constructor
    · exact fun z => ⟨by omega, q⟩
    · intro z; omega
theorem forest_perm (hp : 0 ≤ p) {row row' : List Int} (hr : RoadsOk roads p row) (q : row.Perm row') : forest roads p row = forest roads p row' := by
  have hr' : RoadsOk roads p row' := fun t ht => hr t (q.mem_iff.mpr ht)
  rw [Bool.eq_iff_iff, forest_iff hp hr, forest_iff hp hr', nlab_same hp hr hr' fun t => q.mem_iff, q.length_eq]
/-- without a road a forest stays one -/
theorem forest_less (hp : 0 ≤ p) {row : List Int} {x : Int} (hr : RoadsOk roads p row) (nd : row.Nodup) (hx : x ∈ row) (f : forest roads p row = true) : forest roads p (row.filter fun y => !(y == x)) = true := by
  have q : row.Perm ((row.filter fun y => !(y == x)) ++ [x]) := by
    refine (List.perm_ext_iff_of_nodup nd ?_).mpr fun y => ?_
    · rw [List.nodup_append]
      refine ⟨nd.filter _, by simp, fun a ha b hb e => ?_⟩
      rw [List.mem_singleton.mp hb] at e
      have := (List.mem_filter.mp ha).2
      simp [e] at this
    · rw [List.mem_append, List.mem_filter, List.mem_singleton]
      constructor
      · intro hy
        by_cases e : y = x
        · exact .inr e
        · exact .inl ⟨hy, by simpa using e⟩
      · rintro (z | z)
        · exact z.1
        · rw [z]; exact hx
  rw [forest_perm hp hr q] at f
  have hr2 : RoadsOk roads p (row.filter fun y => !(y == x)) := fun t ht => hr t (List.mem_filter.mp ht).1
  exact ((forest_snoc hp hr2 (hr x hx)).mp f).1
/-- the exchange of roads between two forests of one size -/
theorem forest_exc (hp : 0 ≤ p) {n : Int} {l o : List Int} {x : Int} (la : Asc n l) (oa : Asc n o) (hl : RoadsOk roads p l) (ho : RoadsOk roads p o) (fl : forest roads p l = true) (fo : forest roads p o = true) (e : l.length = o.length) (hx : x ∈ l) (nx : ¬ x ∈ o) :
    ∃ t ∈ o, ¬ t ∈ l ∧ forest roads p (exch l x t) = true := by
  have nd := la.nodup
  have hr2 : RoadsOk roads p (l.filter fun y => !(y == x)) := fun t ht => hl t (List.mem_filter.mp ht).1
  have f2 := forest_less hp hl nd hx fl
  have lt : (l.filter fun y => !(y == x)).length < o.length := by
    have s : (l.filter fun y => !(y == x)).length < l.length := by
      refine Nat.lt_of_le_of_ne (List.length_filter_le _ _) fun z => ?_
      have := List.filter_sublist.eq_of_length z
      rw [List.filter_eq_self] at this
      have := this x hx
      simp at this
    omega
  obtain ⟨t, ht, ne⟩ := forest_more hp hr2 ho f2 fo lt
  have ntl : ¬ t ∈ l := fun z => by
    have tx : ¬ t = x := fun q => nx (by rw [← q]; exact ht)
    exact ne (labs_ends hp hr2 (List.mem_filter.mpr ⟨z, by simpa using tx⟩))
  refine ⟨t, ht, ntl, ?_⟩
  have q : (exch l x t).Perm ((l.filter fun y => !(y == x)) ++ [t]) := (sortD_ints _).2
  have hr3 : RoadsOk roads p ((l.filter fun y => !(y == x)) ++ [t]) := fun u hu => (List.mem_append.mp hu).elim (hr2 u) fun z => by rw [List.mem_singleton.mp z]; exact ho t ht
  rw [← forest_perm hp hr3 q.symm]
  exact (forest_snoc hp hr2 (ho t ht)).mpr ⟨f2, ne⟩
end
end LW

set_option Elab.async false
set_option maxRecDepth 100000
set_option linter.all false
set_option maxHeartbeats 2000000
namespace LW
open PySem PySem.Spec PyProof.Rows L2 PD
theorem v_rest_of (row : List Int) (n : Int) (h0 : 0 ≤ n) (h1 : n ≤ 1000) : m_law_rest_of [tu row, .int n] = .ok (tu ((rangeI 0 n).filter fun x => !decide (x ∈ row))) := by
  show endR (g_law_rest_of [some (.d (tu row)), some (.d (.int n)), none]) = _
  simp [g_law_rest_of, rngA1_ok (show n ≤ 100000 by omega) (show -1000 ≤ n by omega)]
theorem v_left3 (D : List Int) (ls : List (List Int)) (hD : 2 ≤ D.length) (hz : ls.length ≤ 5000) (hne : ls ≠ []) : ∃ ks : List (List Int), m_law_left_lots [li D, tt ls] = .ok (tt ks) ∧ ks ≠ [] ∧ ks.Sublist ls := by
  show ∃ ks : List (List Int), endR (g_law_left_lots [some (.d (li D)), some (.d (tt ls)), none, none]) = _ ∧ _
  have e0 := ix_li (L := D) (i := 0) (by decide) (by omega)
  have e1 := ix_li (L := D) (i := 1) (by decide) (by omega)
  have f2a := fmod_lo (ixv D 0) (b := 2) (by decide)
  have f2b := fmod_hi (ixv D 0) (b := 2) (by decide)
  have key := forGo_inv (i := 3) (g := b_law_left_lots_1) (enc := PyData.int) (fun xs ρ => ∃ (kept : List (List Int)) (o3 : Option Sl), ρ = [some (.d (li D)), some (.d (tt ls)), some (.own (kept.map tu)), o3] ∧ kept ≠ [] ∧ kept.Sublist ls ∧ kept.length ≤ ls.length) (by
    rintro k xs ρ ⟨kept, o3, rfl, h1, h2, h3⟩
    by_cases hb : 1 < kept.length
    · have g1 := fmod_lo (ixv D 1 + k) (b := kept.length) (by omega)
      have g2 := fmod_hi (ixv D 1 + k) (b := kept.length) (by omega)
      have n0 : (kept.length : Int) ≠ 0 := by omega
      have hb' : (1 : Int) < (kept.length : Int) := by omega
      have hjl : ((ixv D 1 + k).fmod kept.length).toNat < kept.length := by omega
      refine ⟨[some (.d (li D)), some (.d (tt ls)), some (.own ((kept.eraseIdx ((ixv D 1 + k).fmod kept.length).toNat).map tu)), some (.d (.int k))], ?_, _, _, rfl, fun z => ?_, (List.eraseIdx_sublist _ _).trans h2, by have := List.length_eraseIdx_le kept ((ixv D 1 + k).fmod kept.length).toNat; omega⟩
      · simp [b_law_left_lots_1, e1, oMod_int n0, popO_map tu _ _ g1 g2 (by omega)]
        exact fun h => absurd h (by omega)
      · have := congrArg List.length z
        rw [List.length_eraseIdx, if_pos hjl, List.length_nil] at this
        omega
    · refine ⟨[some (.d (li D)), some (.d (tt ls)), some (.own (kept.map tu)), some (.d (.int k))], ?_, _, _, rfl, h1, h2, h3⟩
      have hb' : ¬ (1 : Int) < (kept.length : Int) := by omega
      simp [b_law_left_lots_1, hb'])
  obtain ⟨ρ', e, kept, o3, rfl, h1, h2, _⟩ := key (rangeI 0 (1 + (ixv D 0).fmod 2)) [some (.d (li D)), some (.d (tt ls)), some (.own (ls.map tu)), none] ⟨ls, none, rfl, hne, List.Sublist.refl _, Nat.le_refl _⟩
  refine ⟨kept, ?_, h1, h2⟩
  simp [g_law_left_lots, e0, oMod_int, rngA1_ok (n := 1 + (ixv D 0).fmod 2) (by omega) (by omega), e]
theorem v_bounded3 (L : List Int) (n : Int) (h0 : 0 ≤ n) (h1 : n ≤ 9) (hL : (L.length : Int) = 3 + n) : ∃ ks : List (List Int), m_law_bounded_lots [li L, .int n] = .ok (tt ks) ∧ Smooth n ks := by
  show ∃ ks : List (List Int), endR (g_law_bounded_lots [some (.d (li L)), some (.d (.int n)), none, none, none, none, none, none, none, none]) = _ ∧ _
  obtain ⟨rows, e2, hr, hz2, hs⟩ := v_parts2 n h0 (by omega)
  have hz : rows.length ≤ 512 := by
    rw [hz2]
    have hp : 2 ^ n.toNat ≤ 2 ^ 9 := Nat.pow_le_pow_right (by decide) (by omega)
    omega
  have e31 := ix_li (L := L) (i := 1) (by decide) (by omega)
  have e32 := ix_li (L := L) (i := 2) (by decide) (by omega)
  generalize hcl : (rangeI 0 n).map (fun k => (ixv L (3 + k)).fmod 3) = cl
  have lcl : (cl.length : Int) = n := by rw [← hcl, List.length_map, rangeI_len]; omega
  generalize hb0 : 1 + (ixv L 2).fmod 2 = B0
  generalize hb1 : 1 + ((ixv L 2).fdiv 2).fmod 2 = B1
  generalize hb2 : ((ixv L 2).fdiv 4).fmod 3 = B2
  have er := rngA1_ok (n := n) (by omega) (by omega)
  have er3 := rngA1_ok (n := 3) (by decide) (by decide)
  let fit : List Int → Bool := fun row => (rangeI 0 3).all fun k => decide (((row.filter fun x => ixv cl x == k).length : Int) ≤ ixv [B0, B1, B2] k)
  have key := forGo_inv (i := 5) (g := b_law_bounded_lots_1) (enc := tu) (fun xs ρ => ∃ (kept : List (List Int)) (o6 : Option Sl), ρ = [some (.d (li L)), some (.d (.int n)), some (.d (li cl)), some (.d (li [B0, B1, B2])), some (.own (kept.map tu)), o6, none, none, none, none] ∧
      (∀ x ∈ xs, Asc n x) ∧ kept.length + xs.length ≤ 512 ∧ (∀ x ∈ kept, Asc n x ∧ fit x = true) ∧ (∀ r, Asc n r → fit r = true → r ∈ kept ∨ r ∈ xs) ∧ Run (fun a b => HT.lexLt a b = true) kept xs) (by
    rintro x xs ρ ⟨kept, o6, rfl, hx, hl, hk, hf, hR⟩
    have hl' : kept.length + (xs.length + 1) ≤ 512 := by simpa using hl
    have hs : kept.length < sizeLine := line_lt (by omega)
    have hxa := hx x List.mem_cons_self
    have et : lcR (fun _ => R.ok true) (fun k : Int => m_law_count [tu x, li cl, .int k] >>= fun a => oIx (li [B0, B1, B2]) (.int k) >>= fun b => oLe a b) (rangeI 0 3) = .ok ((rangeI 0 3).map fun k => PyData.bool (decide (((x.filter fun y => ixv cl y == k).length : Int) ≤ ixv [B0, B1, B2] k))) := lcR_mem fun k hk => by
      obtain ⟨k1, k2⟩ := mem_rangeI.mp hk
      simp [v_count x cl k (fun y hy => by have := hxa.2 y hy; omega), ix_li (L := [B0, B1, B2]) (i := k) k1 (by simpa using k2)]
    by_cases hb : fit x = true
    · refine ⟨[some (.d (li L)), some (.d (.int n)), some (.d (li cl)), some (.d (li [B0, B1, B2])), some (.own ((kept ++ [x]).map tu)), some (.d (tu x)), none, none, none, none], ?_, kept ++ [x], _, rfl, fun y hy => hx y (List.mem_cons_of_mem _ hy), by simp; omega, fun y hy => ?_, fun r ha hr => ?_, hR.keep⟩
      · have hb' : ∀ k ∈ rangeI 0 3, ((x.filter fun y => ixv cl y == k).length : Int) ≤ ixv [B0, B1, B2] k := by simpa [fit] using hb
        simp [b_law_bounded_lots_1, er3, et, hs]
        exact hb'
      · rcases List.mem_append.mp hy with hy | hy
        · exact hk y hy
        · rw [List.mem_singleton.mp hy]; exact ⟨hxa, hb⟩
      · rcases hf r ha hr with h | h
        · exact .inl (List.mem_append_left _ h)
        · rcases List.mem_cons.mp h with rfl | h
          · exact .inl (by simp)
          · exact .inr h
    · refine ⟨[some (.d (li L)), some (.d (.int n)), some (.d (li cl)), some (.d (li [B0, B1, B2])), some (.own (kept.map tu)), some (.d (tu x)), none, none, none, none], ?_, kept, _, rfl, fun y hy => hx y (List.mem_cons_of_mem _ hy), by omega, hk, fun r ha hr => ?_, hR.skip⟩
      rotate_left
      · rcases hf r ha hr with h | h
        · exact .inl h
        · rcases List.mem_cons.mp h with rfl | h
          · exact absurd hr hb
          · exact .inr h
      have hb' : ¬ ∀ k ∈ rangeI 0 3, ((x.filter fun y => ixv cl y == k).length : Int) ≤ ixv [B0, B1, B2] k := fun h => hb (by simpa [fit] using h)
      simp [b_law_bounded_lots_1, er3, et, hs]
      refine Classical.byContradiction fun hc => hb' fun k hk2 => ?_
      exact Classical.byContradiction fun hn => hc ⟨k, hk2, by omega⟩)
  obtain ⟨ρ', e, kept, o6, rfl, _, hl, hk, hf, hR⟩ := key rows [some (.d (li L)), some (.d (.int n)), some (.d (li cl)), some (.d (li [B0, B1, B2])), some (.own []), none, none, none, none, none]
    ⟨[], none, rfl, fun x hx => (hr x).mp hx, by simpa using hz, by simp, fun r ha _ => .inr ((hr r).mpr ha), Run.start hs⟩
  have hB0 : 0 ≤ B0 := by have := fmod_lo (ixv L 2) (b := 2) (by decide); omega
  have hB1 : 0 ≤ B1 := by have := fmod_lo ((ixv L 2).fdiv 2) (b := 2) (by decide); omega
  have hB2 : 0 ≤ B2 := by have := fmod_lo ((ixv L 2).fdiv 4) (b := 3) (by decide); omega
  have fit0 : fit [] = true := by
    show ((rangeI 0 3).all fun k => decide (((([] : List Int).filter fun x => ixv cl x == k).length : Int) ≤ ixv [B0, B1, B2] k)) = true
    rw [List.all_eq_true]
    intro k hk2
    obtain ⟨k1, k2⟩ := mem_rangeI.mp hk2
    have this : ixv [B0, B1, B2] k ∈ [B0, B1, B2] := ixv_mem k1 (by simpa using k2)
    simp only [List.mem_cons, List.not_mem_nil, or_false] at this
    refine decide_eq_true ?_
    show (0 : Int) ≤ _
    rcases this with h | h | h <;> omega
  have hne : kept ≠ [] := fun z => by
    rcases hf [] (Asc.nil n) fit0 with h | h
    · rw [z] at h; cases h
    · cases h
  have hmx := bMax_li (l := kept.map fun r => (r.length : Int)) (by simpa using hne)
  have hmem := maxI_mem (ns := kept.map fun r => (r.length : Int)) (List.length_pos_iff.mpr (by simpa using hne))
  generalize hM : maxI (kept.map fun r => (r.length : Int)) = M at hmx hmem
  have f8a := fmod_lo (ixv L 1) (b := 8) (by decide)
  have f8b := fmod_hi (ixv L 1) (b := 8) (by decide)
  have e8 := ix_tu (L := [2, 1, 2, 3, 1, 2, 0, 3]) (i := (ixv L 1).fmod 8) f8a (by simpa using f8b)
  have m8 : ixv [2, 1, 2, 3, 1, 2, 0, 3] ((ixv L 1).fmod 8) ∈ [2, 1, 2, 3, 1, 2, 0, 3] := ixv_mem f8a (by simpa using f8b)
  generalize ixv [2, 1, 2, 3, 1, 2, 0, 3] ((ixv L 1).fmod 8) = T at e8 m8
  have hT : 0 ≤ T := by
    simp only [List.mem_cons, List.not_mem_nil, or_false] at m8
    omega
  generalize hC : (if T < M then T else M) = C
  obtain ⟨r0, hr0, hr0M⟩ := List.mem_map.mp hmem
  have hC0 : 0 ≤ C ∧ C ≤ r0.length := by
    have hM0 : (r0.length : Int) = M := hr0M
    split at hC <;> omega
  have hfit : ∀ r : List Int, fit r = true ↔ Fit (fun x => ixv cl x) (fun k => ixv [B0, B1, B2] k) r := fun r => by
    show ((rangeI 0 3).all fun k => decide (((r.filter fun x => ixv cl x == k).length : Int) ≤ ixv [B0, B1, B2] k)) = true ↔ _
    rw [List.all_eq_true]
    constructor
    · intro z k k0 k1
      exact of_decide_eq_true (z k (mem_rangeI.mpr ⟨k0, k1⟩))
    · intro z k hk
      exact decide_eq_true (z k (mem_rangeI.mp hk).1 (mem_rangeI.mp hk).2)
  have hcr : ∀ x, 0 ≤ x → x < n → 0 ≤ ixv cl x ∧ ixv cl x < 3 := fun x x0 x1 => by
    have m : ixv cl x ∈ cl := ixv_mem x0 (by omega)
    generalize ixv cl x = u at m ⊢
    rw [← hcl] at m
    obtain ⟨k, _, rfl⟩ := List.mem_map.mp m
    exact ⟨fmod_lo _ (by decide), fmod_hi _ (by decide)⟩
  have mem : ∀ r, r ∈ (kept.filter fun r => (r.length : Int) == C) ↔ Asc n r ∧ fit r = true ∧ (r.length : Int) = C := fun r => by
    rw [List.mem_filter]
    constructor
    · rintro ⟨a, b⟩
      exact ⟨(hk r a).1, (hk r a).2, by simpa using b⟩
    · rintro ⟨a, b, d⟩
      exact ⟨(hf r a b).elim id (fun z => by cases z), by simpa using d⟩
  refine ⟨kept.filter fun r => (r.length : Int) == C, ?_, ⟨fun l hl => ((mem l).mp hl).1, (hR.1 : Asd kept).filter _, fun z => ?_, ?_⟩, fun l hl x hx o ho nx => ?_, fun l hl k hk2 => ?_⟩
  · simp [g_law_bounded_lots, er]
    rw [lcR_mem (g := fun k => PyData.int ((ixv L (3 + k)).fmod 3))]
    · simp [e2, e31, e32, hcl, oMod_int, oDiv_lit, hb0, hb1, hb2, e, hmx, e8, hC]
    · intro k hk3
      obtain ⟨k1, k2⟩ := mem_rangeI.mp hk3
      simp [ix_li (L := L) (i := 3 + k) (by omega) (by omega), oMod_int]
  · obtain ⟨ha0, hf0⟩ := hk r0 hr0
    have : r0.take C.toNat ∈ (kept.filter fun r => (r.length : Int) == C) := (mem _).mpr ⟨asc_take ha0 _, (hfit _).mpr (fit_take ((hfit _).mp hf0) _), by rw [List.length_take]; omega⟩
    rw [z] at this
    cases this
  · have a := List.length_filter_le (fun r : List Int => (r.length : Int) == C) kept
    have : kept.length ≤ 512 := by simpa using hl
    omega
  · obtain ⟨la, lf, ll⟩ := (mem l).mp hl
    obtain ⟨oa, of, ol⟩ := (mem o).mp ho
    obtain ⟨t, t1, t2, t3, t4, t5⟩ := fit_exc hcr la oa ((hfit l).mp lf) ((hfit o).mp of) (by omega) hx nx
    exact ⟨t, t1, t2, (mem _).mpr ⟨t3, (hfit _).mpr t4, by rw [t5]; exact ll⟩⟩
  · have a := ((mem l).mp hl).2.2
    have b := ((mem k).mp hk2).2.2
    omega
theorem tu_2 (a b : Int) : PyData.tuple [.int a, .int b] = tu [a, b] := rfl
theorem oIx_2a (a b : Int) : oIx (tu [a, b]) (.int 0) = .ok (.int a) := rfl
theorem oIx_2b (a b : Int) : oIx (tu [a, b]) (.int 1) = .ok (.int b) := rfl
theorem v_forest3 (row : List Int) (roads : List (List Int)) (p : Int) (hp : 0 ≤ p ∧ p ≤ 12) (hr : ∀ t ∈ row, 0 ≤ t ∧ t < (roads.length : Int) ∧ Road p (ixr roads t)) : m_law_is_forest [tu row, lt roads, .int p] = .ok (.bool (forest roads p row)) := by
  show endR (g_law_is_forest [some (.d (tu row)), some (.d (lt roads)), some (.d (.int p)), none, none, none, none, none]) = _
  have key : ∀ (xs lab : List Int) (o4 o5 o6 : Option Sl), Lab p lab → (∀ t ∈ xs, 0 ≤ t ∧ t < (roads.length : Int) ∧ Road p (ixr roads t)) →
      forGo (.nm 4) b_law_is_forest_1 (xs.map .int) [some (.d (tu row)), some (.d (lt roads)), some (.d (.int p)), some (.d (li lab)), o4, o5, o6, none] = (if forB roads xs lab = true then forGo (.nm 4) b_law_is_forest_1 (xs.map .int) [some (.d (tu row)), some (.d (lt roads)), some (.d (.int p)), some (.d (li lab)), o4, o5, o6, none] else .rt (.bool false)) ∧
      (forB roads xs lab = true → ∃ ρ', forGo (.nm 4) b_law_is_forest_1 (xs.map .int) [some (.d (tu row)), some (.d (lt roads)), some (.d (.int p)), some (.d (li lab)), o4, o5, o6, none] = .nx ρ') := by
    intro xs
    induction xs with
    | nil => intro lab o4 o5 o6 _ _; exact ⟨by simp [forB], fun _ => ⟨_, rfl⟩⟩
    | cons t xs ih =>
      intro lab o4 o5 o6 hL ht
      obtain ⟨t0, t1, rd⟩ := ht t List.mem_cons_self
      obtain ⟨a, b, hab, ha, hb⟩ := rd
      have er := ix_lt t0 t1
      have j1 : joinL lab (ixr roads t) = lab.map fun x => if x = ixv lab a then ixv lab b else x := by rw [hab]; rfl
      have LJ := hL.join ⟨a, b, hab, ha, hb⟩
      rw [j1] at LJ
      have fb : forB roads (t :: xs) lab = (!decide (ixv lab a = ixv lab b) && forB roads xs (lab.map fun x => if x = ixv lab a then ixv lab b else x)) := by
        show (!decide (ixv lab (ixv (ixr roads t) 0) = ixv lab (ixv (ixr roads t) 1)) && forB roads xs (joinL lab (ixr roads t))) = _
        rw [j1, hab]
        rfl
      rw [hab] at er
      have ea := ix_li (L := lab) (i := a) ha.1 (by rw [hL.len]; exact ha.2)
      have eb := ix_li (L := lab) (i := b) hb.1 (by rw [hL.len]; exact hb.2)
      rw [fb]
      by_cases e : ixv lab a = ixv lab b
      · have : forGo (.nm 4) b_law_is_forest_1 ((t :: xs).map PyData.int) [some (.d (tu row)), some (.d (lt roads)), some (.d (.int p)), some (.d (li lab)), o4, o5, o6, none] = .rt (.bool false) := by
          simp [forGo, b_law_is_forest_1, er, oIx_2a, oIx_2b, ea, eb, e]
        rw [this]
        simp [e]
      · have st : forGo (.nm 4) b_law_is_forest_1 ((t :: xs).map PyData.int) [some (.d (tu row)), some (.d (lt roads)), some (.d (.int p)), some (.d (li lab)), o4, o5, o6, none] = forGo (.nm 4) b_law_is_forest_1 (xs.map PyData.int) [some (.d (tu row)), some (.d (lt roads)), some (.d (.int p)), some (.d (li (lab.map fun x => if x = ixv lab a then ixv lab b else x))), some (.d (.int t)), some (.d (.int (ixv lab a))), some (.d (.int (ixv lab b))), none] := by
          simp [forGo, b_law_is_forest_1, er, oIx_2a, oIx_2b, ea, eb, e]
        rw [st]
        obtain ⟨i1, i2⟩ := ih (lab.map fun x => if x = ixv lab a then ixv lab b else x) (some (.d (.int t))) (some (.d (.int (ixv lab a)))) (some (.d (.int (ixv lab b)))) LJ fun u hu => ht u (List.mem_cons_of_mem _ hu)
        rw [decide_eq_false e]
        simp only [Bool.not_false, Bool.true_and]
        exact ⟨i1, i2⟩
  obtain ⟨k1, k2⟩ := key row (rangeI 0 p) none none none (Lab.start hp.1) hr
  unfold forest
  by_cases hb : forB roads row (rangeI 0 p) = true
  · obtain ⟨ρ', e⟩ := k2 hb
    rw [hb]
    simp [g_law_is_forest, bLstR1_ok (rgOk_small (n := p) (by omega) (by omega)), e]
  · rw [if_neg hb] at k1
    rw [Bool.eq_false_iff.mpr hb]
    simp [g_law_is_forest, bLstR1_ok (rgOk_small (n := p) (by omega) (by omega)), k1]
theorem v_forest_lots3 (L : List Int) (n : Int) (h0 : 0 ≤ n) (h1 : n ≤ 9) (hL : 2 + n ≤ (L.length : Int)) : ∃ ks : List (List Int), m_law_forest_lots [li L, .int n] = .ok (tt ks) ∧ Smooth n ks := by
  show ∃ ks : List (List Int), endR (g_law_forest_lots [some (.d (li L)), some (.d (.int n)), none, none, none, none, none, none, none]) = _ ∧ _
  obtain ⟨rows, e2, hr, hz2, hs⟩ := v_parts2 n h0 (by omega)
  have hz : rows.length ≤ 512 := by
    rw [hz2]
    have hp : 2 ^ n.toNat ≤ 2 ^ 9 := Nat.pow_le_pow_right (by decide) (by omega)
    omega
  have e31 := ix_li (L := L) (i := 1) (by decide) (by omega)
  have f3a := fmod_lo (ixv L 1) (b := 3) (by decide)
  have f3b := fmod_hi (ixv L 1) (b := 3) (by decide)
  generalize hp : 2 + (ixv L 1).fmod 3 = p
  have p2 : 2 ≤ p ∧ p ≤ 4 := by omega
  have p0 : p ≠ 0 := by omega
  have p1 : p.natAbs < 1073741824 := by omega
  have key := forGo_inv (i := 4) (g := b_law_forest_lots_1) (enc := PyData.int) (fun xs ρ => ∃ (k : Int) (roads : List (List Int)) (o4 o5 : Option Sl), ρ = [some (.d (li L)), some (.d (.int n)), some (.d (.int p)), some (.own (roads.map tu)), o4, o5, none, none, none] ∧ xs = rangeI k n ∧ 0 ≤ k ∧ k ≤ n ∧ (roads.length : Int) = k ∧ ∀ r ∈ roads, Road p r) (by
    rintro x xs ρ ⟨k, roads, o4, o5, rfl, hx, k0, k1, hl, hR⟩
    obtain ⟨hk1, rfl, rfl⟩ := rangeI_inv hx
    have hs : roads.length < sizeLine := line_lt (by omega)
    have ex := ix_li (L := L) (i := 2 + x) (by omega) (by omega)
    refine ⟨[some (.d (li L)), some (.d (.int n)), some (.d (.int p)), some (.own ((roads ++ [[(ixv L (2 + x)).fmod p, ((ixv L (2 + x)).fdiv p).fmod p]]).map tu)), some (.d (.int x)), some (.d (.int (ixv L (2 + x)))), none, none, none], ?_, x + 1, _, _, _, rfl, rfl, by omega, by omega, by simp; omega, fun r hr => ?_⟩
    · simp [b_law_forest_lots_1, ex, oMod_int p0, oDiv_lit p0 p1, hs, tu_2]
    · rcases List.mem_append.mp hr with hr | hr
      · exact hR r hr
      · rw [List.mem_singleton.mp hr]
        exact ⟨_, _, rfl, ⟨fmod_lo _ (by omega), fmod_hi _ (by omega)⟩, fmod_lo _ (by omega), fmod_hi _ (by omega)⟩)
  obtain ⟨ρ', e, k, roads, o4, o5, rfl, hx, k0, k1, hl, hR⟩ := key (rangeI 0 n) [some (.d (li L)), some (.d (.int n)), some (.d (.int p)), some (.own []), none, none, none, none, none] ⟨0, [], none, none, rfl, rfl, by omega, h0, rfl, by simp⟩
  have ek : k = n := by
    by_cases h : k < n
    · rw [rangeI_cons h] at hx; cases hx
    · omega
  subst ek
  have rok : ∀ r, Asc k r → ∀ t ∈ r, 0 ≤ t ∧ t < (roads.length : Int) ∧ Road p (ixr roads t) := fun r ha t ht => by
    have := ha.2 t ht
    exact ⟨this.1, by omega, hR _ (ixr_mem this.1 (by omega))⟩
  have ef : ∀ r ∈ rows, m_law_is_forest [tu r, lt roads, .int p] = .ok (.bool (forest roads p r)) := fun r hr2 => v_forest3 r roads p ⟨by omega, by omega⟩ (rok r ((hr r).mp hr2))
  have f0 : forest roads p [] = true := rfl
  have er := rngA1_ok (n := k) (by omega) (by omega)
  have e5 : lcR (fun r : List Int => m_law_is_forest [tu r, lt roads, .int p] >>= asB) (fun r => R.ok (tu r)) rows = .ok ((rows.filter (forest roads p)).map tu) := lcR_of fun r hr2 => ⟨by rw [ef r hr2]; rfl, fun _ => rfl⟩
  have hne : rows.filter (forest roads p) ≠ [] := fun z => by
    have : [] ∈ rows.filter (forest roads p) := List.mem_filter.mpr ⟨(hr []).mpr (Asc.nil k), f0⟩
    rw [z] at this; cases this
  generalize hF : rows.filter (forest roads p) = F at e5 hne
  have hFr : ∀ r, r ∈ F ↔ Asc k r ∧ forest roads p r = true := fun r => by rw [← hF, List.mem_filter, hr]
  have hFl : F.length ≤ 512 := by rw [← hF]; exact Nat.le_trans (List.length_filter_le _ _) hz
  have hFs : Asd F := by rw [← hF]; exact (hs : Asd rows).filter _
  have hmx := bMax_li (l := F.map fun r => (r.length : Int)) (by simpa using hne)
  have hmem := maxI_mem (ns := F.map fun r => (r.length : Int)) (List.length_pos_iff.mpr (by simpa using hne))
  have hup : ∀ r, r ∈ F → (r.length : Int) ≤ maxI (F.map fun r => (r.length : Int)) := fun r h => le_maxI (List.mem_map.mpr ⟨r, h, rfl⟩)
  generalize hM : maxI (F.map fun r => (r.length : Int)) = M at hmx hmem hup
  have mem : ∀ r, r ∈ (F.filter fun r => (r.length : Int) == M) ↔ (Asc k r ∧ forest roads p r = true) ∧ (r.length : Int) = M := fun r => by rw [List.mem_filter, hFr]; simp
  refine ⟨F.filter fun r => (r.length : Int) == M, ?_, ⟨fun l hl => ((mem l).mp hl).1.1, hFs.filter _, fun z => ?_, ?_⟩, fun l hl x hx o ho nx => ?_, fun l hl q hq => ?_⟩
  · simp [g_law_forest_lots, e31, oMod_int, hp, er, e, e2, e5, hmx]
  · obtain ⟨r0, h3, h4⟩ := List.mem_map.mp hmem
    have : r0 ∈ F.filter fun r => (r.length : Int) == M := List.mem_filter.mpr ⟨h3, by rw [beq_iff_eq]; exact h4⟩
    rw [z] at this; cases this
  · have := List.length_filter_le (fun r : List Int => (r.length : Int) == M) F
    omega
  · obtain ⟨⟨la, lf⟩, ll⟩ := (mem l).mp hl
    obtain ⟨⟨oa, of⟩, ol⟩ := (mem o).mp ho
    obtain ⟨t, t1, t2, t3⟩ := forest_exc (p := p) (by omega) la oa (fun t ht => (rok l la t ht).2.2) (fun t ht => (rok o oa t ht).2.2) lf of (by omega) hx nx
    exact ⟨t, t1, t2, (mem _).mpr ⟨⟨exch_asc la t2 (oa.2 t t1), t3⟩, by rw [exch_len la.nodup hx]; exact ll⟩⟩
  · have a := ((mem l).mp hl).2
    have b := ((mem q).mp hq).2
    omega
theorem v_smooth3 (c n : Int) (h0 : 0 ≤ n) (h1 : n ≤ 9) : ∃ ks : List (List Int), m_law_smooth_lots_k03 [.int c, .int n] = .ok (tt ks) ∧ Smooth n ks := by
  show ∃ ks : List (List Int), endR (g_law_smooth_lots_k03 [some (.d (.int c)), some (.d (.int n)), none, none, none, none]) = _ ∧ _
  obtain ⟨L, e1, hL, bL⟩ := v_draws c (3 + n) (by omega) (by omega)
  have hLn : (L.length : Int) = 3 + n := by rw [hL]; omega
  have e30 := ix_li (L := L) (i := 0) (by decide) (by omega)
  have hrest : ∀ ls : List (List Int), lcR (fun _ => R.ok true) (fun l => m_law_rest_of [tu l, .int n]) ls = .ok (ls.map fun l => tu ((rangeI 0 n).filter fun x => !decide (x ∈ l))) := fun ls => lcR_mem fun l _ => v_rest_of l n h0 (by omega)
  generalize hk : (ixv L 0).fmod 6 = k
  have any : ∀ d : PyData, ∀ ks : List (List Int), d = tt ks → Smooth n ks → (k < 4 → m_law_bounded_lots [li L, .int n] = .ok d) → (¬ k < 4 → m_law_forest_lots [li L, .int n] = .ok d) →
      ∃ ks : List (List Int), endR (g_law_smooth_lots_k03 [some (.d (.int c)), some (.d (.int n)), none, none, none, none]) = .ok (tt ks) ∧ Smooth n ks := by
    rintro d ks rfl hs hb hf
    by_cases h35 : k = 3 ∨ k = 5
    · refine ⟨sortT (ks.map fun l => (rangeI 0 n).filter fun x => !decide (x ∈ l)), ?_, hs.opp⟩
      · by_cases h4 : k < 4
        · have h : k = 3 := by omega
          simp [g_law_smooth_lots_k03, e1, e30, oMod_int, hk, hb h4, h, hrest]
        · have h : k = 5 := by omega
          simp [g_law_smooth_lots_k03, e1, e30, oMod_int, hk, hf h4, h, hrest]
    · refine ⟨ks, ?_, hs⟩
      have n3 : ¬ k = 3 := fun h => h35 (.inl h)
      have n5 : ¬ k = 5 := fun h => h35 (.inr h)
      by_cases h4 : k < 4
      · simp [g_law_smooth_lots_k03, e1, e30, oMod_int, hk, h4, hb h4, n3, n5]
      · simp [g_law_smooth_lots_k03, e1, e30, oMod_int, hk, h4, hf h4, n3, n5]
  by_cases h4 : k < 4
  · obtain ⟨ks, q1, q2⟩ := v_bounded3 L n h0 h1 hLn
    exact any _ ks rfl q2 (fun _ => q1) fun h => absurd h4 h
  · obtain ⟨ks, q1, q2⟩ := v_forest_lots3 L n h0 h1 (by omega)
    exact any _ ks rfl q2 (fun h => absurd h h4) fun _ => q1
theorem v_any3 (c n : Int) (h0 : 0 ≤ n) (h1 : n ≤ 9) : ∃ ks : List (List Int), m_law_any_lots_k03 [.int c, .int n] = .ok (tt ks) ∧ Good n ks := by
  show ∃ ks : List (List Int), endR (g_law_any_lots_k03 [some (.d (.int c)), some (.d (.int n)), none, none, none, none, none, none, none, none]) = _ ∧ _
  obtain ⟨L, e1, hL, bL⟩ := v_draws c (15 + n) (by omega) (by omega)
  have hLn : (L.length : Int) = 15 + n := by rw [hL]; omega
  have e12 := ix_li (L := L) (i := 12) (by decide) (by omega)
  have er := rngA1_ok (n := n) (by omega) (by omega)
  generalize hk : (ixv L 12).fmod 4 = k
  by_cases c1 : k = 1
  · obtain ⟨ls, q1, qs⟩ := v_smooth3 c n h0 h1
    obtain ⟨ks, w1, w2, w3⟩ := v_left3 (L.drop 13) ls (by rw [List.length_drop]; omega) (by have := qs.good.len; omega) qs.good.ne
    have ec : oCut (li L) (some 13) none = .ok (li (L.drop 13)) := cut_li L 13 (by omega)
    refine ⟨ks, ?_, ⟨fun r hr => qs.good.asc r (w3.subset hr), qs.good.asd.sublist w3, w2, by have := w3.length_le; have := qs.good.len; omega⟩⟩
    simp [g_law_any_lots_k03, e1, e12, oMod_int, hk, c1, q1, ec, w1]
  · by_cases c2 : k = 2 ∧ 2 < n
    · obtain ⟨c2, c3⟩ := c2
      generalize hsd : (rangeI 0 n).map (fun k => (ixv L (15 + k)).fmod 3) = sd
      have lsd : (sd.length : Int) = n := by rw [← hsd, List.length_map, rangeI_len]; omega
      have er3 := rngA1_ok (n := 3) (by decide) (by decide)
      obtain ⟨ks, w1, w2, wA, wL⟩ := v_antichain2 ((rangeI 0 3).map fun s => (rangeI 0 n).filter fun t => ixv sd t == s) (by rw [List.length_map, rangeI_len]; decide)
      have hasc : ∀ r ∈ (rangeI 0 3).map fun s => (rangeI 0 n).filter fun t => ixv sd t == s, Asc n r := fun r hr => by
        obtain ⟨s, _, rfl⟩ := List.mem_map.mp hr
        exact asc_rest n _
      refine ⟨ks, ?_, ⟨fun r hr => hasc r ((w2 r).mp hr).1, wA, ?_, by rw [List.length_map, rangeI_len] at wL; omega⟩⟩
      · simp [g_law_any_lots_k03, e1, e12, oMod_int, hk, c2, c3, er]
        rw [lcR_mem (g := fun k => PyData.int ((ixv L (15 + k)).fmod 3))]
        · have ei : ∀ s : Int, lcR (fun t : Int => (oIx (li sd) (.int t) >>= fun a => oEq a (.int s)) >>= asB) (fun t => R.ok (PyData.int t)) (rangeI 0 n) = .ok (((rangeI 0 n).filter fun t => ixv sd t == s).map PyData.int) := fun s => lcR_of fun t ht => by
            obtain ⟨t0, t1⟩ := mem_rangeI.mp ht
            simp [ix_li (L := sd) (i := t) t0 (by omega)]
          simp [hsd, er3, er, ei, w1]
        · intro k hk3
          obtain ⟨k1, k2⟩ := mem_rangeI.mp hk3
          simp [ix_li (L := L) (i := 15 + k) (by omega) (by omega), oMod_int]
      · obtain ⟨x, x1, x2⟩ := top_some hasc (fun z => by have := congrArg List.length z; rw [List.length_map, rangeI_len] at this; simp at this)
        exact List.ne_nil_of_mem ((w2 x).mpr ⟨x1, x2⟩)
    · obtain ⟨rows, e2, hr, hz, _⟩ := v_parts2 n h0 (by omega)
      have e3 := ix_li (L := L) (i := 0) (by decide) (by omega)
      generalize ixv L 0 = d0 at e3
      have b1 := fmod_lo d0 (b := 6) (by decide)
      have b2 := fmod_hi d0 (b := 6) (by decide)
      have hne : 0 < rows.length := List.length_pos_of_mem ((hr []).mpr (Asc.nil n))
      have e5 := rngA1_ok (n := 1 + d0.fmod 6) (by omega) (by omega)
      have f1 : ∀ a : Int, 0 ≤ a.fmod rows.length ∧ a.fmod rows.length < rows.length := fun a => ⟨fmod_lo a (by omega), fmod_hi a (by omega)⟩
      obtain ⟨ks, e6, h6, hA, hL2⟩ := v_antichain2 ((rangeI 0 (1 + d0.fmod 6)).map fun k => ixr rows ((ixv L (1 + k)).fmod rows.length)) (by rw [List.length_map, rangeI_len]; omega)
      have hasc : ∀ r ∈ (rangeI 0 (1 + d0.fmod 6)).map fun k => ixr rows ((ixv L (1 + k)).fmod rows.length), Asc n r := fun r hr2 => by
        obtain ⟨j, hj, rfl⟩ := List.mem_map.mp hr2
        exact (hr _).mp (ixr_mem (f1 _).1 (f1 _).2)
      have hc2 : (if k = 2 then decide (2 < n) else false) = false := by
        by_cases h : k = 2
        · have : ¬ 2 < n := fun h2 => c2 ⟨h, h2⟩
          simp [h, this]
        · simp [h]
      refine ⟨ks, ?_, ⟨fun r hr2 => hasc r ((h6 r).mp hr2).1, hA, ?_, by rw [List.length_map, rangeI_len] at hL2; omega⟩⟩
      · by_cases h2 : k = 2
        · have hn : ¬ 2 < n := fun h3 => c2 ⟨h2, h3⟩
          simp [g_law_any_lots_k03, e1, e12, oMod_int, hk, h2, hn, e2, e3, e5]
          rw [lcR_mem (g := fun k => tu (ixr rows ((ixv L (1 + k)).fmod rows.length)))]
          · simp [e6]
          · intro k hk
            obtain ⟨k1, k2⟩ := mem_rangeI.mp hk
            have n0 : (rows.length : Int) ≠ 0 := by omega
            simp [ix_li (L := L) (i := 1 + k) (by omega) (by omega), oMod_int n0, ix_lt (f1 _).1 (f1 _).2]
        · simp [g_law_any_lots_k03, e1, e12, oMod_int, hk, c1, h2, e2, e3, e5]
          rw [lcR_mem (g := fun k => tu (ixr rows ((ixv L (1 + k)).fmod rows.length)))]
          · simp [e6]
          · intro k hk
            obtain ⟨k1, k2⟩ := mem_rangeI.mp hk
            have n0 : (rows.length : Int) ≠ 0 := by omega
            simp [ix_li (L := L) (i := 1 + k) (by omega) (by omega), oMod_int n0, ix_lt (f1 _).1 (f1 _).2]
      · obtain ⟨x, x1, x2⟩ := top_some hasc (fun z => by have := congrArg List.length z; rw [List.length_map, rangeI_len, List.length_nil] at this; omega)
        exact List.ne_nil_of_mem ((h6 x).mpr ⟨x1, x2⟩)
theorem v_lots3 (c n : Int) (h0 : 0 ≤ n) (h1 : n ≤ 9) : ∃ ks : List (List Int), m_law_lots_k03 [.int c, .int n] = .ok (tt ks) ∧ Good n ks := by
  show ∃ ks : List (List Int), endR (g_law_lots_k03 [some (.d (.int c)), some (.d (.int n))]) = _ ∧ _
  obtain ⟨L, e1, hL, bL⟩ := v_draws c 12 (by decide) (by decide)
  have hL3 : L.length = 12 := hL
  have e11 := ix_li (L := L) (i := 11) (by decide) (by omega)
  by_cases h : (ixv L 11).fmod 2 = 0
  · obtain ⟨ks, e, hk⟩ := v_smooth3 c n h0 h1
    refine ⟨ks, ?_, hk.good⟩
    simp [g_law_lots_k03, e1, e11, oMod_int, h, e]
  · obtain ⟨ks, e, hk⟩ := v_any3 c n h0 h1
    refine ⟨ks, ?_, hk⟩
    simp [g_law_lots_k03, e1, e11, oMod_int, h, e]
end LW

set_option Elab.async false
set_option maxRecDepth 100000
set_option linter.all false
set_option maxHeartbeats 2000000
namespace LW
open PySem PySem.Spec PyProof.Rows L2 PD

/-! ### any target -/
theorem lcGo_of {α : Type} {enc : α → PyData} {t : Tg} {ft : DnB} {fe : Dn} {ρ : Rho} {st : α → Rho} {q : α → Bool} {g : α → PyData} : ∀ {xs : List α}, (∀ x ∈ xs, t.set (enc x) ρ = some (st x) ∧ ft (st x) = .ok (q x) ∧ (q x = true → fe (st x) = .ok (g x))) → lcGo t ft fe ρ (xs.map enc) = .ok ((xs.filter q).map g)
  | [], _ => rfl
  | x :: xs, h => by
    obtain ⟨h1, h2, h3⟩ := h x List.mem_cons_self
    have ih := lcGo_of (xs := xs) fun y hy => h y (List.mem_cons_of_mem _ hy)
    rw [List.map_cons]
    unfold lcGo
    rw [h1]
    dsimp only
    rw [h2, nx_ok', ih]
    cases e : q x with
    | false => simp [e]
    | true => rw [h3 e]; simp [e]
theorem lc_of {α : Type} {enc : α → PyData} {fi : DnL} {t : Tg} {ft : DnB} {fe : Dn} {vs : List Nat} {ρ : Rho} {xs : List α} {st : α → Rho} {q : α → Bool} {g : α → PyData} (hi : fi ρ = .ok (xs.map enc)) (h : ∀ x ∈ xs, t.set (enc x) (wipeR ρ vs) = some (st x) ∧ ft (st x) = .ok (q x) ∧ (q x = true → fe (st x) = .ok (g x))) :
    dLc fi t ft fe vs ρ = .ok (.list ((xs.filter q).map g)) := by
  unfold dLc
  rw [hi, R.bind_ok, lcGo_of h]
  rfl
theorem lc2Go_of {α : Type} {enc : α → PyData} {t : Tg} {ft : DnB} {fi1 : DnL} {t1 : Tg} {ft1 : DnB} {fe : Dn} {vs1 : List Nat} {ρ : Rho} {st : α → Rho} {q : α → Bool} {es : α → List PyData} {ys : α → List PyData} : ∀ {xs : List α}, (∀ x ∈ xs, t.set (enc x) ρ = some (st x) ∧ ft (st x) = .ok (q x) ∧ (q x = true → fi1 (st x) = .ok (es x) ∧ lcGo t1 ft1 fe (wipeR (st x) vs1) (es x) = .ok (ys x))) →
    lc2Go t ft fi1 t1 ft1 fe vs1 ρ (xs.map enc) = .ok ((xs.filter q).flatMap ys)
  | [], _ => rfl
  | x :: xs, h => by
    obtain ⟨h1, h2, h3⟩ := h x List.mem_cons_self
    have ih := lc2Go_of (xs := xs) fun y hy => h y (List.mem_cons_of_mem _ hy)
    rw [List.map_cons]
    unfold lc2Go
    rw [h1]
    dsimp only
    rw [h2, nx_ok', ih]
    cases e : q x with
    | false => simp [e]
    | true =>
      obtain ⟨a, b⟩ := h3 e
      rw [a, nx_ok', b]
      simp [e]
theorem lc2_of {α : Type} {enc : α → PyData} {fi : DnL} {t : Tg} {ft : DnB} {fi1 : DnL} {t1 : Tg} {ft1 : DnB} {fe : Dn} {vs vs1 : List Nat} {ρ : Rho} {xs : List α} {st : α → Rho} {q : α → Bool} {es : α → List PyData} {ys : α → List PyData} (hi : fi ρ = .ok (xs.map enc))
    (h : ∀ x ∈ xs, t.set (enc x) (wipeR ρ vs) = some (st x) ∧ ft (st x) = .ok (q x) ∧ (q x = true → fi1 (st x) = .ok (es x) ∧ lcGo t1 ft1 fe (wipeR (st x) vs1) (es x) = .ok (ys x))) (hz : ((xs.filter q).flatMap ys).length ≤ 100000) :
    dLc2 fi t ft fi1 t1 ft1 fe vs vs1 ρ = .ok (.list ((xs.filter q).flatMap ys)) := by
  unfold dLc2
  rw [hi, R.bind_ok, lc2Go_of h, nx_ok', if_pos (by rw [sizeLine_eq]; omega)]
theorem forGo_invT {α : Type} {enc : α → PyData} {t : Tg} {g : Sn} (S : List α → Rho → Prop) (hs : ∀ x xs ρ, S (x :: xs) ρ → ∃ ρ1 ρ', t.set (enc x) ρ = some ρ1 ∧ g ρ1 = .nx ρ' ∧ S xs ρ') : ∀ (xs : List α) (ρ : Rho), S xs ρ → ∃ ρ', forGo t g (xs.map enc) ρ = .nx ρ' ∧ S [] ρ'
  | [], ρ, h => ⟨ρ, rfl, h⟩
  | x :: xs, ρ, h => by
    obtain ⟨ρ1, ρ2, e1, e2, h2⟩ := hs x xs ρ h
    obtain ⟨ρ3, e3, h3⟩ := forGo_invT S hs xs ρ2 h2
    refine ⟨ρ3, ?_, h3⟩
    rw [List.map_cons]
    unfold forGo
    rw [e1]
    dsimp only
    rw [e2]
    exact e3
theorem forGo_mayT {α : Type} {enc : α → PyData} {t : Tg} {g : Sn} (S : List α → Rho → Prop) (Z : PyData → Prop) (hs : ∀ x xs ρ, S (x :: xs) ρ → ∃ ρ1, t.set (enc x) ρ = some ρ1 ∧ ((∃ ρ', g ρ1 = .nx ρ' ∧ S xs ρ') ∨ ∃ d, g ρ1 = .rt d ∧ Z d)) : ∀ (xs : List α) (ρ : Rho), S xs ρ → (∃ ρ', forGo t g (xs.map enc) ρ = .nx ρ' ∧ S [] ρ') ∨ ∃ d, forGo t g (xs.map enc) ρ = .rt d ∧ Z d
  | [], ρ, h => .inl ⟨ρ, rfl, h⟩
  | x :: xs, ρ, h => by
    obtain ⟨ρ1, e1, z⟩ := hs x xs ρ h
    rw [List.map_cons]
    unfold forGo
    rw [e1]
    dsimp only
    rcases z with ⟨ρ2, e2, h2⟩ | ⟨d, e2, hd⟩
    · rw [e2]
      exact forGo_mayT S Z hs xs ρ2 h2
    · rw [e2]
      exact .inr ⟨d, rfl, hd⟩
theorem forGo_findT {α : Type} {enc : α → PyData} {t : Tg} {g : Sn} (S : Rho → Prop) (F : α → Option PyData) : ∀ {xs : List α}, (∀ x ∈ xs, ∀ ρ, S ρ → ∃ ρ1, t.set (enc x) ρ = some ρ1 ∧ match F x with
      | some d => g ρ1 = .rt d
      | none => ∃ ρ', g ρ1 = .nx ρ' ∧ S ρ') → ∀ ρ, S ρ → match xs.findSome? F with
      | some d => forGo t g (xs.map enc) ρ = .rt d
      | none => ∃ ρ', forGo t g (xs.map enc) ρ = .nx ρ' ∧ S ρ'
  | [], _, ρ, h => ⟨ρ, rfl, h⟩
  | x :: xs, hs, ρ, h => by
    obtain ⟨ρ1, e1, z⟩ := hs x List.mem_cons_self ρ h
    rw [List.map_cons, List.findSome?_cons]
    unfold forGo
    rw [e1]
    dsimp only
    cases e : F x with
    | some d =>
      rw [e] at z
      dsimp only at z ⊢
      rw [z]
    | none =>
      rw [e] at z
      obtain ⟨ρ2, e2, h2⟩ := z
      dsimp only
      rw [e2]
      exact forGo_findT S F (fun y hy => hs y (List.mem_cons_of_mem _ hy)) ρ2 h2

/-! ### numbered, in pairs -/
def idx {α : Type} (k : Int) : List α → List (Int × α)
  | [] => []
  | x :: xs => (k, x) :: idx (k + 1) xs
def encI {α : Type} (enc : α → PyData) (p : Int × α) : PyData := .tuple [.int p.1, enc p.2]
theorem enumF_map {α : Type} (enc : α → PyData) : ∀ (k : Int) (xs : List α), enumF k (xs.map enc) = (idx k xs).map (encI enc)
  | _, [] => rfl
  | k, x :: xs => by
    show _ :: _ = _ :: _
    rw [enumF_map enc (k + 1) xs]
    rfl
theorem mem_idx {α : Type} {j : Int} {y : α} : ∀ {k : Int} {xs : List α}, (j, y) ∈ idx k xs → k ≤ j ∧ j < k + xs.length ∧ xs[(j - k).toNat]? = some y
  | k, [], h => by cases h
  | k, x :: xs, h => by
    rcases List.mem_cons.mp h with e | h
    · cases e
      simp
      omega
    · obtain ⟨a, b, c⟩ := mem_idx h
      have : (j - k).toNat = (j - (k + 1)).toNat + 1 := by omega
      rw [this, List.getElem?_cons_succ, List.length_cons]
      exact ⟨by omega, by omega, c⟩
theorem idx_map {α β : Type} (f : α → β) : ∀ (k : Int) (xs : List α), idx k (xs.map f) = (idx k xs).map fun p => (p.1, f p.2)
  | _, [] => rfl
  | k, x :: xs => by
    show _ :: _ = _ :: _
    rw [idx_map f (k + 1) xs]
theorem idx_len {α : Type} : ∀ (k : Int) (xs : List α), (idx k xs).length = xs.length
  | _, [] => rfl
  | k, x :: xs => by rw [idx, List.length_cons, List.length_cons, idx_len]
@[simp] theorem ev_enum (g : DnL) (ρ : Rho) : dEnum g ρ = (g ρ >>= enumA) := rfl
@[simp] theorem enumA_1 (d : PyData) : enumA [d] = (items d >>= fun ds => .ok (enumF 0 ds)) := rfl
@[simp] theorem ev_zip (g : DnL) (ρ : Rho) : dZip g ρ = (g ρ >>= zipA) := rfl
@[simp] theorem zipA_2 (d e : PyData) : zipA [d, e] = (items d >>= fun ds => items e >>= fun es => .ok (zipD ds es)) := rfl
def enc2 {α β : Type} (f : α → PyData) (g : β → PyData) (p : α × β) : PyData := .tuple [f p.1, g p.2]
theorem zipD_map {α β : Type} (f : α → PyData) (g : β → PyData) : ∀ (xs : List α) (ys : List β), zipD (xs.map f) (ys.map g) = (xs.zip ys).map (enc2 f g)
  | [], _ => by simp [zipD]
  | _ :: _, [] => by simp [zipD]
  | x :: xs, y :: ys => by
    show _ :: _ = _ :: _
    rw [zipD_map f g xs ys]
    rfl

/-! ### the least by a key -/
def bestF {α : Type} (key : α → Int) : List α → α → α
  | [], b => b
  | y :: ys, b => bestF key ys (if key y < key b then y else b)
theorem bestF_append {α : Type} {key : α → Int} : ∀ {xs ys : List α} {b : α}, bestF key (xs ++ ys) b = bestF key ys (bestF key xs b)
  | [], _, _ => rfl
  | x :: xs, ys, b => bestF_append (xs := xs)
theorem bestF_le {α : Type} {key : α → Int} : ∀ {xs : List α} {b : α}, key (bestF key xs b) ≤ key b ∧ ∀ y ∈ xs, key (bestF key xs b) ≤ key y
  | [], b => ⟨Int.le_refl _, fun y h => by cases h⟩
  | x :: xs, b => by
    obtain ⟨h1, h2⟩ := bestF_le (key := key) (xs := xs) (b := if key x < key b then x else b)
    show key (bestF key xs _) ≤ _ ∧ _
    have : key (if key x < key b then x else b) ≤ key b ∧ key (if key x < key b then x else b) ≤ key x := by split <;> omega
    refine ⟨by omega, fun y hy => ?_⟩
    show key (bestF key xs _) ≤ _
    rcases List.mem_cons.mp hy with rfl | hy
    · omega
    · exact h2 y hy
theorem bestF_mem {α : Type} {key : α → Int} : ∀ {xs : List α} {b : α}, bestF key xs b = b ∨ bestF key xs b ∈ xs
  | [], b => .inl rfl
  | x :: xs, b => by
    show bestF key xs _ = b ∨ bestF key xs _ ∈ _
    rcases bestF_mem (key := key) (xs := xs) (b := if key x < key b then x else b) with h | h
    · rw [h]
      split
      · exact .inr List.mem_cons_self
      · exact .inl rfl
    · exact .inr (List.mem_cons_of_mem _ h)
/-- the first one of the least -/
def best {α : Type} (key : α → Int) : List α → Option α
  | [] => none
  | x :: xs => some (bestF key xs x)
theorem argBest_at {α : Type} {key : α → Int} {xs : List α} {x : α} : ∀ {k : Nat}, k < (x :: xs).length → argBest (fun i j => decide (((x :: xs).map key).getD i 0 < ((x :: xs).map key).getD j 0)) k < (x :: xs).length ∧ (x :: xs)[argBest (fun i j => decide (((x :: xs).map key).getD i 0 < ((x :: xs).map key).getD j 0)) k]? = some (bestF key (xs.take k) x)
  | 0, h => ⟨by simp [argBest], by simp [argBest, bestF]⟩
  | k + 1, h => by
    have hk : k < (x :: xs).length := by omega
    obtain ⟨i1, i2⟩ := argBest_at (key := key) (x := x) (xs := xs) hk
    have hx : k < xs.length := by simpa using h
    have e1 : xs.take (k + 1) = xs.take k ++ [xs[k]] := by rw [List.take_succ_eq_append_getElem hx]
    rw [e1, bestF_append]
    have e2 : ((x :: xs).map key).getD (k + 1) 0 = key xs[k] := by simp [hx]
    have e3 : ((x :: xs).map key).getD (argBest (fun i j => decide (((x :: xs).map key).getD i 0 < ((x :: xs).map key).getD j 0)) k) 0 = key (bestF key (xs.take k) x) := by
      rw [List.getD_eq_getElem?_getD, List.getElem?_map, i2]
      rfl
    unfold argBest
    rw [e2, e3]
    show _ ∧ _ = some (if key xs[k] < key (bestF key (xs.take k) x) then xs[k] else bestF key (xs.take k) x)
    by_cases q : key xs[k] < key (bestF key (xs.take k) x)
    · rw [if_pos (by simpa using q), if_pos q]
      refine ⟨h, ?_⟩
      rw [List.getElem?_cons_succ, List.getElem?_eq_getElem hx]
    · rw [if_neg (by simpa using q), if_neg q]
      exact ⟨i1, i2⟩
theorem pick_best {α : Type} {enc : α → PyData} {key : α → Int} {xs : List α} {y : α} (h : best key xs = some y) : pickBest (xs.map enc) (xs.map key) = .ok (enc y) := by
  cases xs with
  | nil => cases h
  | cons x xs =>
    cases h
    obtain ⟨h1, h2⟩ := argBest_at (key := key) (x := x) (xs := xs) (k := xs.length) (by simp)
    have e : (((x :: xs).map enc).length - 1) = xs.length := by simp
    unfold pickBest
    rw [e, List.getElem?_map, h2, List.take_length]
    rfl
theorem best_mem {α : Type} {key : α → Int} {xs : List α} {y : α} (h : best key xs = some y) : y ∈ xs := by
  cases xs with
  | nil => cases h
  | cons x xs =>
    cases h
    rcases bestF_mem (key := key) (xs := xs) (b := x) with e | e
    · rw [e]; exact List.mem_cons_self
    · exact List.mem_cons_of_mem _ e
theorem best_le {α : Type} {key : α → Int} {xs : List α} {y z : α} (h : best key xs = some y) (hz : z ∈ xs) : key y ≤ key z := by
  cases xs with
  | nil => cases h
  | cons x xs =>
    cases h
    obtain ⟨a, b⟩ := bestF_le (key := key) (xs := xs) (b := x)
    rcases List.mem_cons.mp hz with rfl | hz
    · exact a
    · exact b z hz
theorem best_some {α : Type} {key : α → Int} {xs : List α} (h : xs ≠ []) : ∃ y, best key xs = some y := by
  cases xs with
  | nil => exact absurd rfl h
  | cons x xs => exact ⟨_, rfl⟩
theorem keysGo_of {α : Type} {enc : α → PyData} {p : Nat} {fe : Dn} {ρ : Rho} {key : α → Int} : ∀ {xs : List α}, (∀ x ∈ xs, fe (ρ.set p (some (.d (enc x)))) = .ok (.int (key x))) → keysGo p fe ρ (xs.map enc) = .ok (xs.map key)
  | [], _ => rfl
  | x :: xs, h => by
    rw [List.map_cons]
    unfold keysGo
    rw [h x List.mem_cons_self, nx_ok']
    dsimp only
    rw [keysGo_of fun y hy => h y (List.mem_cons_of_mem _ hy)]
    rfl
theorem minL_of {α : Type} {enc : α → PyData} {g : DnL} {p : Nat} {fe : Dn} {ρ : Rho} {d : PyData} {xs : List α} {key : α → Int} {y : α} (h1 : g ρ = .ok [d]) (h2 : items d = .ok (xs.map enc)) (h3 : ∀ x ∈ xs, fe (ρ.set p (some (.d (enc x)))) = .ok (.int (key x))) (h4 : best key xs = some y) : dMinL g p fe ρ = .ok (enc y) := by
  unfold dMinL
  rw [h1, R.bind_ok]
  show (items d >>= fun ds => nx (keysGo p fe ρ ds) fun ks => pickBest ds ks) = _
  rw [h2, R.bind_ok, keysGo_of h3, nx_ok', pick_best h4]

/-! ### stores into own lists -/
@[simp] theorem ev_setAt (i : Nat) (fi fe : Dn) (ρ : Rho) : gSetAt i fi fe ρ = oR (fe ρ) ρ fun y => ownA ρ[i]? fun ds => match fi ρ with
  | .ok (.int k) => match ixN ds.length k with
    | some j => .nx (ρ.set i (some (.own (ds.set j y))))
    | none => .bad
  | _ => .bad := rfl
theorem ixN_ok {n : Nat} {i : Int} (h0 : 0 ≤ i) (h1 : i < (n : Int)) : ixN n i = some i.toNat := by
  unfold ixN
  rw [if_pos h0, if_pos h1]
@[simp] theorem oEq_li (a b : List Int) : oEq (li a) (li b) = .ok (.bool (decide (a = b))) := by simp [oEq]
@[simp] theorem oNe_li (a b : List Int) : oNe (li a) (li b) = .ok (.bool (!decide (a = b))) := by simp [oNe]
@[simp] theorem oEq_lt (a b : List (List Int)) : oEq (lt a) (lt b) = .ok (.bool (decide (a = b))) := by simp [oEq]
@[simp] theorem oNe_lt (a b : List (List Int)) : oNe (lt a) (lt b) = .ok (.bool (!decide (a = b))) := by simp [oNe]
theorem oEq_self {d : PyData} (h : shp d = true) : oEq d d = .ok (.bool true) := by
  unfold oEq
  rw [if_pos ⟨h, h⟩, SeqAt.eqv_refl d (SeqAt.canLay_of_shaped h)]
theorem oNe_self {d : PyData} (h : shp d = true) : oNe d d = .ok (.bool false) := by
  unfold oNe
  rw [if_pos ⟨h, h⟩, SeqAt.eqv_refl d (SeqAt.canLay_of_shaped h)]
  rfl
end LW

set_option Elab.async false
set_option maxRecDepth 100000
set_option linter.all false
set_option maxHeartbeats 2000000
namespace LW
open PySem PySem.Spec PyProof.Rows L2 PD

/-! ### prices -/
@[simp] theorem oPow_10_30 : oPow (.int 10) (.int 30) = .ok (.int 1000000000000000000000000000000) := by
  have h : CPow 10 30 := ⟨by decide, by decide, by decide⟩
  show (if CPow 10 30 then R.ok (PyData.int (10 ^ (30 : Int).toNat)) else .bad) = _
  rw [if_pos h]; rfl
def pr (P l : List Int) : Int := (l.map fun x => ixv P x).sum
theorem v_prices (c n : Int) (g : Bool) (h0 : 0 ≤ n) (h1 : n ≤ 900) : ∃ P : List Int, m_law_prices [.int c, .int n, .bool g] = .ok (tu P) ∧ (P.length : Int) = n := by
  show ∃ P : List Int, endR (g_law_prices [some (.d (.int c)), some (.d (.int n)), some (.d (.bool g)), none, none, none, none]) = _ ∧ _
  obtain ⟨L, e1, hL, bL⟩ := v_draws c (n + 1) (by omega) (by omega)
  have key := forGo_inv (i := 5) (g := b_law_prices_1) (enc := PyData.int) (fun xs ρ => ∃ (k : Int) (P : List Int) (o5 o6 : Option Sl), ρ = [some (.d (.int c)), some (.d (.int n)), some (.d (.bool g)), some (.d (li L)), some (.own (P.map .int)), o5, o6] ∧ xs = rangeI k n ∧ 0 ≤ k ∧ k ≤ n ∧ (P.length : Int) = k) (by
    rintro x xs ρ ⟨k, P, o5, o6, rfl, hx, k0, k1, hP⟩
    obtain ⟨hk1, rfl, rfl⟩ := rangeI_inv hx
    have hs : P.length < sizeLine := line_lt (by omega)
    have ex := ix_li (L := L) (i := 1 + x) (by omega) (by omega)
    have m1 := fmod_lo (ixv L (1 + x)) (b := 11) (by decide)
    have m2 := fmod_hi (ixv L (1 + x)) (b := 11) (by decide)
    generalize hm : (ixv L (1 + x)).fmod 11 = m at m1 m2
    cases g with
    | true =>
      refine ⟨[some (.d (.int c)), some (.d (.int n)), some (.d (.bool true)), some (.d (li L)), some (.own ((P ++ [(m - 4) * 1000000000000000000000000000000 + ((ixv L (1 + x)).fdiv 11).fmod 3]).map .int)), some (.d (.int x)), some (.d (.int ((m - 4) * 1000000000000000000000000000000 + ((ixv L (1 + x)).fdiv 11).fmod 3)))], ?_, x + 1, _, _, _, rfl, rfl, by omega, by omega, by simp; omega⟩
      simp [b_law_prices_1, ex, oMod_int, oDiv_lit, hm, oMul_l (i := m - 4) (j := 1000000000000000000000000000000) (by omega) (by omega), hs]
    | false =>
      refine ⟨[some (.d (.int c)), some (.d (.int n)), some (.d (.bool false)), some (.d (li L)), some (.own ((P ++ [m - 4]).map .int)), some (.d (.int x)), some (.d (.int (m - 4)))], ?_, x + 1, _, _, _, rfl, rfl, by omega, by omega, by simp; omega⟩
      simp [b_law_prices_1, ex, oMod_int, hm, hs])
  obtain ⟨ρ', e, k, P, o5, o6, rfl, hx, k0, k1, hP⟩ := key (rangeI 0 n) [some (.d (.int c)), some (.d (.int n)), some (.d (.bool g)), some (.d (li L)), some (.own []), none, none] ⟨0, [], none, none, rfl, rfl, by omega, h0, rfl⟩
  have ek : k = n := by
    by_cases h : k < n
    · rw [rangeI_cons h] at hx; cases hx
    · omega
  subst ek
  refine ⟨P, ?_, hP⟩
  simp [g_law_prices, e1, rngA1_ok (n := k) (by omega) (by omega), e]
theorem lc_prices (P l : List Int) (h : ∀ x ∈ l, 0 ≤ x ∧ x < (P.length : Int)) : lcR (fun _ => R.ok true) (fun x : Int => oIx (tu P) (.int x)) l = .ok (l.map fun x => PyData.int (ixv P x)) := lcR_mem fun x hx => ix_tu (h x hx).1 (h x hx).2
theorem v_price (P l : List Int) (h : ∀ x ∈ l, 0 ≤ x ∧ x < (P.length : Int)) : m_price [tu l, tu P] = .ok (.int (pr P l)) := by
  show endR (g_price [some (.d (tu l)), some (.d (tu P)), none]) = _
  simp [g_price, lc_prices P l h, pr]
theorem v_law_price (P l : List Int) (h : ∀ x ∈ l, 0 ≤ x ∧ x < (P.length : Int)) : m_law_price [tu l, tu P] = .ok (.int (pr P l)) := by
  show endR (g_law_price [some (.d (tu l)), some (.d (tu P)), none]) = _
  simp [g_law_price, lc_prices P l h, pr]
theorem v_cheapest (d : PyData) (P : List Int) (ls : List (List Int)) (l : List Int) (h : ∀ l ∈ ls, ∀ x ∈ l, 0 ≤ x ∧ x < (P.length : Int)) (hb : best (pr P) ls = some l) (hd : oIx d (.int 1) = .ok (tt ls)) : m_cheapest [d, tu P] = .ok (tu l) := by
  show endR (g_cheapest [some (.d d), some (.d (tu P)), none]) = _
  have e : dMinL (dCons (dTwo oIx (dVar 0) (dC (.int 1))) dNil) 2 (dArg m_price (dCons (dVar 2) (dCons (dVar 1) dNil))) [some (.d d), some (.d (tu P)), none] = .ok (tu l) :=
    minL_of (d := tt ls) (xs := ls) (key := pr P) (by simp [hd]) (by simp) (fun k hk => by simp [v_price P k (h k hk)]) hb
  simp [g_cheapest, e]
theorem bestF_step (P : List Int) (b l : List Int) : bestF (pr P) [l] b = if pr P l < pr P b then l else b := rfl
theorem v_law_cheapest (P : List Int) (ls : List (List Int)) (l : List Int) (h : ∀ l ∈ ls, ∀ x ∈ l, 0 ≤ x ∧ x < (P.length : Int)) (hb : best (pr P) ls = some l) : m_law_cheapest [tt ls, tu P] = .ok (tu l) := by
  show endR (g_law_cheapest [some (.d (tt ls)), some (.d (tu P)), none, none]) = _
  cases ls with
  | nil => cases hb
  | cons k ks =>
    have key := forGo_inv (i := 3) (g := b_law_cheapest_1) (enc := tu) (fun xs ρ => ∃ (b : List Int) (o3 : Option Sl), ρ = [some (.d (tt (k :: ks))), some (.d (tu P)), some (.d (tu b)), o3] ∧ b ∈ k :: ks ∧ (∀ x ∈ xs, x ∈ k :: ks) ∧ bestF (pr P) xs b = l) (by
      rintro x xs ρ ⟨b, o3, rfl, hbm, hx, he⟩
      refine ⟨[some (.d (tt (k :: ks))), some (.d (tu P)), some (.d (tu (if pr P x < pr P b then x else b))), some (.d (tu x))], ?_, _, _, rfl, ?_, fun y hy => hx y (List.mem_cons_of_mem _ hy), he⟩
      · have e1 := v_law_price P x (h x (hx x List.mem_cons_self))
        have e2 := v_law_price P b (h b hbm)
        by_cases q : pr P x < pr P b
        · simp [b_law_cheapest_1, e1, e2, q]
        · simp [b_law_cheapest_1, e1, e2, q]
      · split
        · exact hx x List.mem_cons_self
        · exact hbm)
    have e0 : bestF (pr P) (k :: ks) k = l := by
      cases hb
      show bestF (pr P) ks (if pr P k < pr P k then k else k) = _
      rw [if_neg (by omega)]
    obtain ⟨ρ', e, b, o3, rfl, _, _, he⟩ := key (k :: ks) [some (.d (tt (k :: ks))), some (.d (tu P)), some (.d (tu k)), none] ⟨k, none, rfl, List.mem_cons_self, fun _ h => h, e0⟩
    have he : b = l := he
    subst he
    have ei : oIx (tt (k :: ks)) (.int 0) = .ok (tu k) := oIx_tt (by decide) rfl
    rw [List.map_cons] at e
    simp [g_law_cheapest, ei, e]
theorem v_tells12 (n : Int) (ls : List (List Int)) (P : List Int) (g : Good n ls) (hn : n ≤ 900) (hP : (P.length : Int) = n) : m_law_tells_k12 [ofr n ls, tu P] = .ok (.bool true) := by
  show endR (g_law_tells_k12 [some (.d (ofr n ls)), some (.d (tu P)), none, none]) = _
  have hin : ∀ l ∈ ls, ∀ x ∈ l, 0 ≤ x ∧ x < (P.length : Int) := fun l hl x hx => by rw [hP]; exact (g.asc l hl).2 x hx
  obtain ⟨l, hl⟩ := best_some (key := pr P) g.ne
  have key := forGo_inv (i := 2) (g := b_law_tells_k12_1) (enc := tu) (fun xs ρ => ∃ (o2 o3 : Option Sl), ρ = [some (.d (ofr n ls)), some (.d (tu P)), o2, o3] ∧ ∀ l ∈ xs, ∀ x ∈ l, 0 ≤ x ∧ x < (P.length : Int)) (by
    rintro x xs ρ ⟨o2, o3, rfl, hx⟩
    refine ⟨[some (.d (ofr n ls)), some (.d (tu P)), some (.d (tu x)), some (.d (.int (pr P x)))], ?_, _, _, rfl, fun y hy => hx y (List.mem_cons_of_mem _ hy)⟩
    simp [b_law_tells_k12_1, v_price P x (hx x List.mem_cons_self), v_law_price P x (hx x List.mem_cons_self), v_integer])
  obtain ⟨ρ', e, o2, o3, rfl, _⟩ := key (ls ++ [[]]) [some (.d (ofr n ls)), some (.d (tu P)), none, none] ⟨none, none, rfl, fun l hl x hx => by
    rcases List.mem_append.mp hl with h | h
    · exact hin l h x hx
    · rw [List.mem_singleton.mp h] at hx; cases hx⟩
  rw [List.map_append, List.map_cons, List.map_nil] at e
  have ea : oAdd (tt ls) (.tuple [tu []]) = .ok (tt (ls ++ [[]])) := by
    have hz := g.len
    show (if _ then R.ok _ else _) = _
    rw [if_pos]
    · simp [tt]
    · show (ls.map tu).length + 1 ≤ sizeLine
      rw [List.length_map, sizeLine_eq]; omega
  have e1 : oIx (ofr n ls) (.int 1) = .ok (tt ls) := rfl
  have e2 : oIx (ofr n ls) (.int 0) = .ok (.int n) := rfl
  have la := g.asc l (best_mem hl)
  simp [g_law_tells_k12, e1, e2, ea, e, v_cheapest (ofr n ls) P ls l hin hl e1, v_law_cheapest P ls l hin hl, v_is_set l n la (by have := la.len; omega)]
theorem main_k12 (ns : List Int) (hn : ns.length ≤ 63) : m_law_k12 [.list (ns.map .int)] = .ok (.bool true) := by
  show endR (g_law_k12 [some (.d (li ns)), none, none, none, none, none, none]) = _
  obtain ⟨c0, e0⟩ := v_cell ns 0 (by decide)
  obtain ⟨c1, e1⟩ := v_cell ns 1 (by decide)
  obtain ⟨c2, e2⟩ := v_cell ns 2 (by decide)
  obtain ⟨c3, e3⟩ := v_cell ns 3 (by decide)
  obtain ⟨L, eL, hL, bL⟩ := v_draws c0 2 (by decide) (by decide)
  have hL2 : L.length = 2 := hL
  have e30 := ix_li (L := L) (i := 0) (by decide) (by omega)
  have e31 := ix_li (L := L) (i := 1) (by decide) (by omega)
  have f8a := fmod_lo (ixv L 0) (b := 8) (by decide)
  have f8b := fmod_hi (ixv L 0) (b := 8) (by decide)
  have e8 := ix_tu (L := [4, 3, 5, 2, 6, 1, 0, 4]) (i := (ixv L 0).fmod 8) f8a (by simpa using f8b)
  have m8 : ixv [4, 3, 5, 2, 6, 1, 0, 4] ((ixv L 0).fmod 8) ∈ [4, 3, 5, 2, 6, 1, 0, 4] := ixv_mem f8a (by simpa using f8b)
  generalize ixv [4, 3, 5, 2, 6, 1, 0, 4] ((ixv L 0).fmod 8) = F at e8 m8
  have hF : 0 ≤ F ∧ F ≤ 6 := by
    simp only [List.mem_cons, List.not_mem_nil, or_false] at m8
    omega
  obtain ⟨ls, q1, g⟩ := v_lots3 c1 F hF.1 (by omega)
  obtain ⟨P1, p1, hP1⟩ := v_prices c2 F ((ixv L 1).fmod 8 == 5) hF.1 (by omega)
  obtain ⟨P2, p2, hP2⟩ := v_prices c3 F false hF.1 (by omega)
  have t1 := v_tells12 F ls P1 g (by omega) hP1
  have t2 := v_tells12 F ls P2 g (by omega) hP2
  unfold ofr at t1 t2
  simp [g_law_k12, e0, e1, e2, e3, eL, e30, e31, oMod_int, e8, q1, p1, p2, t1, t2]
end LW

set_option Elab.async false
set_option maxRecDepth 100000
set_option linter.all false
set_option maxHeartbeats 2000000
namespace LW
open PySem PySem.Spec PyProof.Rows L2 PD

/-! ### players, loads -/
structure Pl where
  ls : List (List Int)
  C : List (List Int)
  w : Int
def plD (n : Int) (p : Pl) : PyData := .tuple [ofr n p.ls, tt p.C, .int p.w]
def plx (ps : List Pl) (i : Int) : Pl := (ps[i.toNat]?).getD ⟨[], [], 0⟩
/-- the sum of the weights of those whose lot has x -/
def wlz (zs : List (Pl × List Int)) (x : Int) : Int := (zs.map fun z => if x ∈ z.2 then z.1.w else 0).sum
def wl (ps : List Pl) (ch : List (List Int)) (x : Int) : Int := wlz (ps.zip ch) x
theorem wlz_append (as bs : List (Pl × List Int)) (x : Int) : wlz (as ++ bs) x = wlz as x + wlz bs x := by
  unfold wlz
  rw [List.map_append, List.sum_append]
theorem wlz_bnd {zs : List (Pl × List Int)} (h : ∀ z ∈ zs, 1 ≤ z.1.w) (x : Int) : 0 ≤ wlz zs x ∧ wlz zs x ≤ (zs.map fun z => z.1.w).sum := by
  induction zs with
  | nil => exact ⟨Int.le_refl _, Int.le_refl _⟩
  | cons z zs ih =>
    obtain ⟨a, b⟩ := ih fun y hy => h y (List.mem_cons_of_mem _ hy)
    have hz := h z List.mem_cons_self
    show 0 ≤ (if x ∈ z.2 then z.1.w else 0) + wlz zs x ∧ (if x ∈ z.2 then z.1.w else 0) + wlz zs x ≤ z.1.w + (zs.map fun z => z.1.w).sum
    split <;> omega
theorem wlz_at {x : Int} : ∀ {zs : List (Pl × List Int)} {j : Nat} {p : Pl × List Int}, (∀ z ∈ zs, 1 ≤ z.1.w) → zs[j]? = some p → (x ∈ p.2 → p.1.w ≤ wlz zs x) ∧ (¬ x ∈ p.2 → wlz zs x + p.1.w ≤ (zs.map fun z => z.1.w).sum)
  | [], j, p, _, e => by simp at e
  | z :: zs, 0, p, h, e => by
    cases e
    obtain ⟨a, b⟩ := wlz_bnd (zs := zs) (fun y hy => h y (List.mem_cons_of_mem _ hy)) x
    have hz := h z List.mem_cons_self
    refine ⟨fun hx => ?_, fun hx => ?_⟩
    · show z.1.w ≤ (if x ∈ z.2 then z.1.w else 0) + wlz zs x
      rw [if_pos hx]; omega
    · show (if x ∈ z.2 then z.1.w else 0) + wlz zs x + z.1.w ≤ z.1.w + (zs.map fun z => z.1.w).sum
      rw [if_neg hx]; omega
  | z :: zs, j + 1, p, h, e => by
    obtain ⟨a, b⟩ := wlz_at (x := x) (zs := zs) (j := j) (p := p) (fun y hy => h y (List.mem_cons_of_mem _ hy)) (by simpa using e)
    have hz := h z List.mem_cons_self
    refine ⟨fun hx => ?_, fun hx => ?_⟩
    · have := a hx
      show p.1.w ≤ (if x ∈ z.2 then z.1.w else 0) + wlz zs x
      split <;> omega
    · have := b hx
      show (if x ∈ z.2 then z.1.w else 0) + wlz zs x + p.1.w ≤ z.1.w + (zs.map fun z => z.1.w).sum
      split <;> omega
/-- one more load on t -/
theorem set_range {n t : Int} (f : Int → Int) (v : Int) (h0 : 0 ≤ t) (h1 : t < n) : ((rangeI 0 n).map f).set t.toNat v = (rangeI 0 n).map fun x => if x = t then v else f x := by
  apply List.ext_getElem?
  intro j
  by_cases hj : t.toNat = j
  · subst hj
    rw [List.getElem?_set_self (by rw [List.length_map, rangeI_len]; omega), List.getElem?_map, rangeI_get (by omega)]
    simp
    omega
  · rw [List.getElem?_set_ne hj, List.getElem?_map, List.getElem?_map]
    cases e : (rangeI 0 n)[j]? with
    | none => rfl
    | some x =>
      have hl := (List.getElem?_eq_some_iff.mp e).1
      rw [rangeI_len] at hl
      rw [rangeI_get hl] at e
      cases e
      simp
      omega
theorem aug_ok {i j : Nat} {fi fe : Dn} {ρ : Rho} {ds : List PyData} {k y z : Int} (h : ρ[i]? = some (some (.own ds))) (h1 : fi ρ = .ok (.int k)) (h2 : fe ρ = .ok (.int y)) (h3 : ixN ds.length k = some j) (h4 : ds[j]? = some (.int z)) : gAugAt i fi fe ρ = .nx (ρ.set i (some (.own (ds.set j (.int (z + y)))))) := by
  unfold gAugAt ownAt
  rw [h]
  dsimp only
  rw [h1]
  dsimp only
  rw [h2]
  dsimp only
  rw [h3]
  dsimp only
  rw [h4]
theorem ownR_range (n : Int) (f : Int → Int) (x : Int) (h0 : 0 ≤ x) (h1 : x < n) : (((rangeI 0 n).map f).map PyData.int)[x.toNat]? = some (.int (f x)) := by
  rw [List.getElem?_map, List.getElem?_map, rangeI_get (by omega)]
  simp
  congr 1
  omega
theorem v_count_loads (n : Int) (ps : List Pl) (ch : List (List Int)) (h0 : 0 ≤ n) (h1 : n ≤ 900) (hc : ∀ l ∈ ch, Asc n l) : m_count_loads [.int n, .list (ps.map (plD n)), tt ch] = .ok (tu ((rangeI 0 n).map (wl ps ch))) := by
  show endR (g_count_loads [some (.d (.int n)), some (.d (.list (ps.map (plD n)))), some (.d (tt ch)), none, none, none, none, none]) = _
  generalize hP : PyData.list (ps.map (plD n)) = P
  have st : ∀ (f : Int → Int) (p : Pl) (l done rest : List Int) (o6 : Option Sl), Asc n l → done ++ rest = l →
      ∃ o6', forGo (.nm 6) b_count_loads_1 (rest.map .int) [some (.d (.int n)), some (.d P), some (.d (tt ch)), some (.own (((rangeI 0 n).map fun x => f x + if x ∈ done then p.w else 0).map .int)), some (.d (plD n p)), some (.d (tu l)), o6, none] =
        .nx [some (.d (.int n)), some (.d P), some (.d (tt ch)), some (.own (((rangeI 0 n).map fun x => f x + if x ∈ l then p.w else 0).map .int)), some (.d (plD n p)), some (.d (tu l)), o6', none] := by
    intro f p l done rest
    induction rest generalizing done with
    | nil => intro o6 ha e; rw [List.append_nil] at e; subst e; exact ⟨o6, rfl⟩
    | cons t rest ih =>
      intro o6 ha e
      have ht : t ∈ l := by rw [← e]; simp
      have tb := ha.2 t ht
      have nt : ¬ t ∈ done := fun z => by
        have nd := ha.nodup
        rw [← e] at nd
        exact (List.nodup_append.mp nd).2.2 t z t List.mem_cons_self rfl
      obtain ⟨o6', ih⟩ := ih (done ++ [t]) (some (.d (.int t))) ha (by rw [List.append_assoc]; exact e)
      refine ⟨o6', Eq.trans ?_ ih⟩
      rw [List.map_cons]
      conv => lhs; unfold forGo
      rw [set_nm]
      have a1 := aug_ok (i := 3) (fi := dVar 6) (fe := dTwo oIx (dVar 4) (dC (.int 2))) (k := t) (y := p.w) (j := t.toNat) (z := f t + if t ∈ done then p.w else 0)
        (ρ := [some (.d (.int n)), some (.d P), some (.d (tt ch)), some (.own (((rangeI 0 n).map fun x => f x + if x ∈ done then p.w else 0).map .int)), some (.d (plD n p)), some (.d (tu l)), some (.d (.int t)), none]) rfl rfl rfl (ixN_ok tb.1 (by rw [List.length_map, List.length_map, rangeI_len]; omega)) (ownR_range n _ t tb.1 tb.2)
      have a2 : b_count_loads_1 ([some (.d (.int n)), some (.d P), some (.d (tt ch)), some (.own (((rangeI 0 n).map fun x => f x + if x ∈ done then p.w else 0).map .int)), some (.d (plD n p)), some (.d (tu l)), o6, none].set 6 (some (.d (.int t)))) = .nx [some (.d (.int n)), some (.d P), some (.d (tt ch)), some (.own (((rangeI 0 n).map fun x => f x + if x ∈ done ++ [t] then p.w else 0).map .int)), some (.d (plD n p)), some (.d (tu l)), some (.d (.int t)), none] := by
        refine a1.trans ?_
        have s1 : (((rangeI 0 n).map fun x => f x + if x ∈ done then p.w else 0).map PyData.int).set t.toNat (.int (f t + (if t ∈ done then p.w else 0) + p.w)) = ((rangeI 0 n).map fun x => f x + if x ∈ done ++ [t] then p.w else 0).map PyData.int := by
          rw [← List.map_set, set_range _ _ tb.1 tb.2]
          congr 1
          refine List.map_congr_left fun x _ => ?_
          by_cases hx : x = t
          · subst hx
            simp [nt]
          · simp [hx]
        rw [s1]
        rfl
      dsimp only
      rw [a2]
  have key := forGo_invT (t := .tp [.nm 4, .nm 5]) (g := b_count_loads_2) (enc := enc2 (plD n) tu) (fun xs ρ => ∃ (done : List (Pl × List Int)) (o4 o5 o6 : Option Sl), ρ = [some (.d (.int n)), some (.d P), some (.d (tt ch)), some (.own (((rangeI 0 n).map (wlz done)).map .int)), o4, o5, o6, none] ∧ done ++ xs = ps.zip ch) (by
    rintro ⟨p, l⟩ xs ρ ⟨done, o4, o5, o6, rfl, e⟩
    have hl : l ∈ ch := (List.of_mem_zip (a := p) (b := l) (l₁ := ps) (l₂ := ch) (by rw [← e]; simp)).2
    obtain ⟨o6', r⟩ := st (wlz done) p l [] l o6 (hc l hl) rfl
    refine ⟨_, [some (.d (.int n)), some (.d P), some (.d (tt ch)), some (.own (((rangeI 0 n).map (wlz (done ++ [(p, l)]))).map .int)), some (.d (plD n p)), some (.d (tu l)), o6', none], set_tp2 4 5 (plD n p) (tu l) _, ?_, done ++ [(p, l)], _, _, _, rfl, by rw [List.append_assoc]; exact e⟩
    have e1 : (fun x => wlz (done ++ [(p, l)]) x) = fun x => wlz done x + if x ∈ l then p.w else 0 := by
      funext x
      rw [wlz_append]
      simp [wlz]
    have e2 : (fun x => wlz done x + if x ∈ ([] : List Int) then p.w else 0) = wlz done := by funext x; simp
    rw [e2] at r
    have e3 : wlz (done ++ [(p, l)]) = fun x => wlz done x + if x ∈ l then p.w else 0 := e1
    rw [e3]
    exact Eq.trans (show b_count_loads_2 [some (.d (.int n)), some (.d P), some (.d (tt ch)), some (.own (((rangeI 0 n).map (wlz done)).map .int)), some (.d (plD n p)), some (.d (tu l)), o6, none] = forGo (.nm 6) b_count_loads_1 (l.map PyData.int) [some (.d (.int n)), some (.d P), some (.d (tt ch)), some (.own (((rangeI 0 n).map (wlz done)).map .int)), some (.d (plD n p)), some (.d (tu l)), o6, none] from rfl) r)
  have e0 : (rangeI 0 n).map (wlz []) = (rangeI 0 n).map fun _ => (0 : Int) := rfl
  obtain ⟨ρ', e, done, o4, o5, o6, rfl, hz⟩ := key (ps.zip ch) [some (.d (.int n)), some (.d P), some (.d (tt ch)), some (.own (((rangeI 0 n).map (wlz [])).map .int)), none, none, none, none] ⟨[], none, none, none, rfl, rfl⟩
  rw [List.append_nil] at hz
  subst hz
  have ez : zipD (ps.map (plD n)) (ch.map tu) = (ps.zip ch).map (enc2 (plD n) tu) := zipD_map _ _ _ _
  have ei : items P = .ok (ps.map (plD n)) := by rw [← hP]; rfl
  have l0 : dLc (dRng1 (dCons (dVar 0) dNil)) (.nm 7) dYes (dC (.int 0)) [7] [some (.d (.int n)), some (.d P), some (.d (tt ch)), none, none, none, none, none] = .ok (.list (((rangeI 0 n).map (wlz [])).map .int)) := by
    have := lc_of (enc := PyData.int) (fi := dRng1 (dCons (dVar 0) dNil)) (t := .nm 7) (ft := dYes) (fe := dC (.int 0)) (vs := [7]) (ρ := [some (.d (.int n)), some (.d P), some (.d (tt ch)), none, none, none, none, none]) (xs := rangeI 0 n) (st := fun x => [some (.d (.int n)), some (.d P), some (.d (tt ch)), none, none, none, none, some (.d (.int x))]) (q := fun _ => true) (g := fun _ => .int 0) (rngA1_ok (n := n) (by omega) (by omega)) fun x _ => ⟨by simp, rfl, fun _ => rfl⟩
    rw [this, List.filter_eq_self.mpr (fun _ _ => rfl), List.map_map]
    rfl
  have ew2 : wl ps ch = wlz (ps.zip ch) := rfl
  have g1 : gOwn (dLc (dRng1 (dCons (dVar 0) dNil)) (.nm 7) dYes (dC (.int 0)) [7]) 3 [some (.d (.int n)), some (.d P), some (.d (tt ch)), none, none, none, none, none] = .nx [some (.d (.int n)), some (.d P), some (.d (tt ch)), some (.own (((rangeI 0 n).map (wlz [])).map .int)), none, none, none, none] := by
    rw [ev_own, l0]
    rfl
  have g2 : gFor (dZip (dCons (dVar 1) (dCons (dVar 2) dNil))) (.tp [(.nm 4), (.nm 5)]) b_count_loads_2 [some (.d (.int n)), some (.d P), some (.d (tt ch)), some (.own (((rangeI 0 n).map (wlz [])).map .int)), none, none, none, none] = .nx [some (.d (.int n)), some (.d P), some (.d (tt ch)), some (.own (((rangeI 0 n).map (wlz (ps.zip ch))).map .int)), o4, o5, o6, none] := by
    rw [ev_for]
    simp only [ev_zip, ev_cons, ev_nil, ev_var, List.getElem?_cons_succ, List.getElem?_cons_zero, varR_d, R.bind_ok, zipA_2, ei, items_tt, ez, oR_ok]
    exact e
  rw [ew2]
  unfold g_count_loads
  rw [ev_seq, g1, seqO_nx, ev_seq, g2, seqO_nx]
  simp [-List.map_map]
/-! ### prices of a player -/
def cost (C : List (List Int)) (x k : Int) : Int := ixv (ixr C x) (k - 1)
theorem v_cost_at (C : List (List Int)) (x k : Int) (h0 : 0 ≤ x) (h1 : x < (C.length : Int)) (h2 : 1 ≤ k) (h3 : k ≤ ((ixr C x).length : Int)) : m_cost_at [tt C, .int x, .int k] = .ok (.int (cost C x k)) := by
  show endR (g_cost_at [some (.d (tt C)), some (.d (.int x)), some (.d (.int k))]) = _
  simp [g_cost_at, ix_tt h0 h1, ix_tu (L := ixr C x) (i := k - 1) (by omega) (by omega), cost]
structure Play (n : Int) (ps : List Pl) : Prop where
  n0 : 0 ≤ n
  n1 : n ≤ 900
  good : ∀ p ∈ ps, Good n p.ls
  rows : ∀ p ∈ ps, (p.C.length : Int) = n
  room : ∀ p ∈ ps, ∀ r ∈ p.C, (ps.map fun p => p.w).sum ≤ (r.length : Int)
  w1 : ∀ p ∈ ps, 1 ≤ p.w
structure Chs (ps : List Pl) (ch : List (List Int)) : Prop where
  len : ch.length = ps.length
  mem : ∀ i, 0 ≤ i → i < (ps.length : Int) → ixr ch i ∈ (plx ps i).ls
theorem plx_mem {ps : List Pl} {i : Int} (h0 : 0 ≤ i) (h1 : i < (ps.length : Int)) : plx ps i ∈ ps := by
  have hl : i.toNat < ps.length := by omega
  unfold plx
  rw [List.getElem?_eq_getElem hl]
  exact List.getElem_mem hl
theorem ix_pl {ps : List Pl} {n i : Int} (h0 : 0 ≤ i) (h1 : i < (ps.length : Int)) : oIx (.list (ps.map (plD n))) (.int i) = .ok (plD n (plx ps i)) := by
  have hl : i.toNat < ps.length := by omega
  have e : (ps)[i.toNat]? = some (plx ps i) := by
    unfold plx
    rw [List.getElem?_eq_getElem hl]; rfl
  show (match atI (ps.map (plD n)) i with | some d => R.ok d | none => .bad) = _
  rw [atI_get (plD n) h0 e]
theorem Chs.asc {n : Int} {ps : List Pl} {ch : List (List Int)} (P : Play n ps) (c : Chs ps ch) : ∀ l ∈ ch, Asc n l := fun l hl => by
  obtain ⟨j, hj, e⟩ := List.getElem_of_mem hl
  have := c.len
  have m := c.mem j (by omega) (by omega)
  have e2 : ixr ch j = l := by
    unfold ixr
    rw [show ((j : Int)).toNat = j by omega, List.getElem?_eq_getElem hj, e]; rfl
  rw [e2] at m
  exact (P.good _ (plx_mem (by omega) (by omega))).asc l m
def opr (ps : List Pl) (ch : List (List Int)) (i x : Int) : Int := cost (plx ps i).C x (wl ps ch x + if x ∈ ixr ch i then 0 else (plx ps i).w)
theorem zip_sum {ps : List Pl} {ch : List (List Int)} (h : ch.length = ps.length) : ((ps.zip ch).map fun z => z.1.w).sum = (ps.map fun p => p.w).sum := by
  have : (ps.zip ch).map (fun z => z.1.w) = ps.map fun p => p.w := by
    have e : (ps.zip ch).map Prod.fst = ps := List.map_fst_zip (by omega)
    have e2 := congrArg (List.map fun p : Pl => p.w) e
    rw [List.map_map] at e2
    exact e2
  rw [this]
/-- the load that a player sees stands within the room -/
theorem wl_see {n : Int} {ps : List Pl} {ch : List (List Int)} (P : Play n ps) (c : Chs ps ch) {i : Int} (h0 : 0 ≤ i) (h1 : i < (ps.length : Int)) (x : Int) :
    1 ≤ wl ps ch x + (if x ∈ ixr ch i then 0 else (plx ps i).w) ∧ wl ps ch x + (if x ∈ ixr ch i then 0 else (plx ps i).w) ≤ (ps.map fun p => p.w).sum := by
  have hw : ∀ z ∈ ps.zip ch, 1 ≤ z.1.w := fun z hz => P.w1 z.1 (List.of_mem_zip (a := z.1) (b := z.2) hz).1
  have hl : i.toNat < ps.length := by omega
  have hl2 : i.toNat < ch.length := by rw [c.len]; exact hl
  have e : (ps.zip ch)[i.toNat]? = some (plx ps i, ixr ch i) := by
    rw [List.getElem?_zip_eq_some]
    unfold plx ixr
    rw [List.getElem?_eq_getElem hl, List.getElem?_eq_getElem hl2]
    exact ⟨rfl, rfl⟩
  obtain ⟨a, b⟩ := wlz_at (x := x) hw e
  obtain ⟨d, f⟩ := wlz_bnd hw x
  rw [zip_sum c.len] at b f
  have g := P.w1 _ (plx_mem h0 h1)
  show 1 ≤ wlz (ps.zip ch) x + _ ∧ wlz (ps.zip ch) x + _ ≤ _
  by_cases hx : x ∈ ixr ch i
  · have h2 : (plx ps i).w ≤ wlz (ps.zip ch) x := a hx
    rw [if_pos hx]
    omega
  · have h2 : wlz (ps.zip ch) x + (plx ps i).w ≤ _ := b hx
    rw [if_neg hx]
    omega
theorem v_prices_for (n : Int) (ps : List Pl) (ch : List (List Int)) (i : Int) (P : Play n ps) (c : Chs ps ch) (h0 : 0 ≤ i) (h1 : i < (ps.length : Int)) : m_prices_for [.list (ps.map (plD n)), tt ch, .int i] = .ok (tu ((rangeI 0 n).map (opr ps ch i))) := by
  show endR (g_prices_for [some (.d (.list (ps.map (plD n)))), some (.d (tt ch)), some (.d (.int i)), none, none, none, none, none, none, none, none]) = _
  have e1 := ix_pl (n := n) h0 h1
  have hm := plx_mem h0 h1
  have e2 := v_count_loads n ps ch P.n0 P.n1 (c.asc P)
  have e3 := ix_tt (L := ch) h0 (by rw [c.len]; exact h1)
  have er := rngA1_ok (n := n) (by have := P.n1; omega) (by have := P.n0; omega)
  have e5 : oIx (ofr n (plx ps i).ls) (.int 0) = .ok (.int n) := rfl
  have s3 : Tg.set (.tp [.nm 3, .nm 4, .nm 5]) (plD n (plx ps i)) [some (.d (.list (ps.map (plD n)))), some (.d (tt ch)), some (.d (.int i)), none, none, none, none, none, none, none, none] = some [some (.d (.list (ps.map (plD n)))), some (.d (tt ch)), some (.d (.int i)), some (.d (ofr n (plx ps i).ls)), some (.d (tt (plx ps i).C)), some (.d (.int (plx ps i).w)), none, none, none, none, none] := by
    simp [plD, Tg.set, Tg.sets]
  have l1 : lcR (fun _ => R.ok true) (fun x : Int => (oIn (.int x) (tu (ixr ch i)) >>= asB) >>= fun b => if b = true then R.ok (PyData.int 0) else R.ok (.int (plx ps i).w)) (rangeI 0 n) = .ok ((rangeI 0 n).map fun x => PyData.int (if x ∈ ixr ch i then 0 else (plx ps i).w)) := lcR_mem fun x _ => by
    by_cases hx : x ∈ ixr ch i <;> simp [hx]
  -- the costs
  have l2 : dLc (dEnum (dCons (dVar 8) dNil)) (.tp [(.nm 9), (.nm 10)]) dYes (dArg m_cost_at (dCons (dVar 4) (dCons (dVar 9) (dCons (dTwo oAdd (dTwo oIx (dVar 6) (dVar 9)) (dVar 10)) dNil)))) [9, 10]
      [some (.d (.list (ps.map (plD n)))), some (.d (tt ch)), some (.d (.int i)), some (.d (ofr n (plx ps i).ls)), some (.d (tt (plx ps i).C)), some (.d (.int (plx ps i).w)), some (.d (tu ((rangeI 0 n).map (wl ps ch)))), some (.d (tu (ixr ch i))), some (.d (li ((rangeI 0 n).map fun x => if x ∈ ixr ch i then 0 else (plx ps i).w))), none, none] =
      .ok (.list ((((idx 0 ((rangeI 0 n).map fun x => if x ∈ ixr ch i then 0 else (plx ps i).w))).filter fun _ => true).map fun p => .int (cost (plx ps i).C p.1 (wl ps ch p.1 + p.2)))) := by
    refine lc_of (enc := encI PyData.int) (st := fun p => [some (.d (.list (ps.map (plD n)))), some (.d (tt ch)), some (.d (.int i)), some (.d (ofr n (plx ps i).ls)), some (.d (tt (plx ps i).C)), some (.d (.int (plx ps i).w)), some (.d (tu ((rangeI 0 n).map (wl ps ch)))), some (.d (tu (ixr ch i))), some (.d (li ((rangeI 0 n).map fun x => if x ∈ ixr ch i then 0 else (plx ps i).w))), some (.d (.int p.1)), some (.d (.int p.2))]) (by rw [← enumF_map]; simp) fun p hp => ⟨by simp [encI], rfl, fun _ => ?_⟩
    obtain ⟨j, w⟩ := p
    obtain ⟨j0, j1, j2⟩ := mem_idx hp
    rw [List.length_map, rangeI_len] at j1
    have jn : j < n := by have := P.n0; omega
    rw [List.getElem?_map, rangeI_get (by omega)] at j2
    have j3 : w = if j ∈ ixr ch i then 0 else (plx ps i).w := by
      have : (0 : Int) + ((j - 0).toNat : Nat) = j := by omega
      rw [this] at j2
      exact (Option.some.inj j2).symm
    subst j3
    have see := wl_see P c h0 h1 j
    have rw1 := P.rows _ hm
    have rl := P.room _ hm (ixr (plx ps i).C j) (ixr_mem j0 (by omega))
    have e6 : oIx (tu ((rangeI 0 n).map (wl ps ch))) (.int j) = .ok (.int (wl ps ch j)) := by
      have := ix_tu (L := (rangeI 0 n).map (wl ps ch)) (i := j) j0 (by rw [List.length_map, rangeI_len]; omega)
      rw [this, ixv_map j0 (by rw [rangeI_len]; omega), ixv_range j0 jn]
    simp [e6, v_cost_at (plx ps i).C j _ j0 (by omega) see.1 (by omega)]
  have e7 : (((idx 0 ((rangeI 0 n).map fun x => if x ∈ ixr ch i then 0 else (plx ps i).w))).filter fun _ => true).map (fun p => PyData.int (cost (plx ps i).C p.1 (wl ps ch p.1 + p.2))) = ((rangeI 0 n).map (opr ps ch i)).map PyData.int := by
    rw [List.filter_eq_self.mpr (fun _ _ => rfl), List.map_map]
    apply List.ext_getElem?
    intro j
    rw [List.getElem?_map, List.getElem?_map]
    cases e : (idx 0 ((rangeI 0 n).map fun x => if x ∈ ixr ch i then 0 else (plx ps i).w))[j]? with
    | none =>
      have hl := List.getElem?_eq_none_iff.mp e
      rw [idx_len, List.length_map] at hl
      rw [List.getElem?_eq_none hl]
      rfl
    | some q =>
      obtain ⟨k, w⟩ := q
      have hk : k = (j : Int) ∧ ((rangeI 0 n).map fun x => if x ∈ ixr ch i then 0 else (plx ps i).w)[j]? = some w := by
        have : ∀ (s : Int) (l : List Int) (j : Nat) (k w : Int), (idx s l)[j]? = some (k, w) → k = s + (j : Int) ∧ l[j]? = some w := by
          intro s l
          induction l generalizing s with
          | nil => intro j k w h; simp [idx] at h
          | cons a l ih =>
            intro j k w h
            cases j with
            | zero => simp [idx] at h; simp [h]
            | succ j =>
              obtain ⟨a1, a2⟩ := ih (s + 1) j k w (by simpa [idx] using h)
              refine ⟨by omega, by simpa using a2⟩
        have := this 0 _ j k w e
        exact ⟨by omega, this.2⟩
      obtain ⟨hk, hw⟩ := hk
      have hl := (List.getElem?_eq_some_iff.mp hw).1
      rw [List.length_map, rangeI_len] at hl
      rw [List.getElem?_map, rangeI_get hl] at hw
      rw [rangeI_get hl]
      simp only [Option.map_some, Option.some.injEq] at hw ⊢
      have h0' : (0 : Int) + (j : Int) = k := by omega
      rw [h0'] at hw ⊢
      rw [← hw]
      rfl
  rw [e7] at l2
  simp [g_prices_for, e1, s3, e5, e2, e3, er, l1, l2, -List.map_map]
end LW

set_option Elab.async false
set_option maxRecDepth 100000
set_option linter.all false
set_option maxHeartbeats 2000000
namespace LW
open PySem PySem.Spec PyProof.Rows L2 PD

/-! ### cost tables -/
/-- rows of one length whose entries don't fall -/
def Rows (n m : Int) (C : List (List Int)) : Prop := (C.length : Int) = n ∧ ∀ r ∈ C, (r.length : Int) = m ∧ r.Pairwise (· ≤ ·)
def cst (g : Bool) (c k x : Int) : Int := if g = true then c * 1000000000000000000000000000000 + k + x else c
theorem v_costs (c n m : Int) (g : Bool) (h0 : 0 ≤ n) (h1 : n ≤ 15) (h2 : 0 ≤ m) (h3 : m ≤ 50) : ∃ C : List (List Int), m_law_costs [.int c, .int n, .int m, .bool g] = .ok (tt C) ∧ Rows n m C := by
  show ∃ C : List (List Int), endR (g_law_costs [some (.d (.int c)), some (.d (.int n)), some (.d (.int m)), some (.d (.bool g)), none, none, none, none, none, none, none]) = _ ∧ _
  have hnm0 : 0 ≤ n * m := Int.mul_nonneg h0 h2
  have hnm : n * m ≤ 750 := by
    have a : n * m ≤ 15 * m := Int.mul_le_mul_of_nonneg_right h1 h2
    omega
  obtain ⟨L, e1, hL, bL⟩ := v_draws c (n * m + 1) (by omega) (by omega)
  have hLn : (L.length : Int) = n * m + 1 := by rw [hL]; omega
  have emul : oMul (.int n) (.int m) = .ok (.int (n * m)) := oMul_l (by omega) (by omega)
  -- a row
  have row : ∀ (x : Int) (R : List (List Int)) (o10 : Option Sl), 0 ≤ x → x < n → ∀ c0 : Int, -3 ≤ c0 → c0 ≤ 5 → ∀ o9, ∃ (r : List Int) (c1 : Int) (o9' o10' : Option Sl), forGo (.nm 9) b_law_costs_1 ((rangeI 0 m).map .int) [some (.d (.int c)), some (.d (.int n)), some (.d (.int m)), some (.d (.bool g)), some (.d (li L)), some (.own (R.map tu)), some (.d (.int x)), some (.d (.int c0)), some (.own []), o9, o10] =
      .nx [some (.d (.int c)), some (.d (.int n)), some (.d (.int m)), some (.d (.bool g)), some (.d (li L)), some (.own (R.map tu)), some (.d (.int x)), some (.d (.int c1)), some (.own (r.map .int)), o9', o10'] ∧ (r.length : Int) = m ∧ r.Pairwise (· ≤ ·) := by
    intro x R o10 x0 x1 c0 c00 c05 o9
    have hxm0 : 0 ≤ x * m := Int.mul_nonneg x0 h2
    have hxm : x * m + m ≤ n * m := by
      have a : (x + 1) * m ≤ n * m := Int.mul_le_mul_of_nonneg_right (by omega) h2
      rw [Int.add_mul, Int.one_mul] at a
      exact a
    have exm : oMul (.int x) (.int m) = .ok (.int (x * m)) := oMul_l (by omega) (by omega)
    have key := forGo_inv (i := 9) (g := b_law_costs_1) (enc := PyData.int) (fun xs ρ => ∃ (k c1 : Int) (r : List Int) (o9 o10 : Option Sl), ρ = [some (.d (.int c)), some (.d (.int n)), some (.d (.int m)), some (.d (.bool g)), some (.d (li L)), some (.own (R.map tu)), some (.d (.int x)), some (.d (.int c1)), some (.own (r.map .int)), o9, o10] ∧ xs = rangeI k m ∧ 0 ≤ k ∧ k ≤ m ∧ (r.length : Int) = k ∧ r.Pairwise (· ≤ ·) ∧ (∀ y ∈ r, y ≤ cst g c1 (k - 1) x) ∧ -3 ≤ c1 ∧ c1 ≤ 5 + 4 * k) (by
      rintro y xs ρ ⟨k, c1, r, o9, o10, rfl, hx, k0, k1, hr, hp, hb, b0, b1⟩
      obtain ⟨hk1, rfl, rfl⟩ := rangeI_inv hx
      have hs : r.length < sizeLine := line_lt (by omega)
      have ex := ix_li (L := L) (i := x * m + y) (by omega) (by omega)
      have m1 := fmod_lo (ixv L (x * m + y)) (b := 5) (by decide)
      have m2 := fmod_hi (ixv L (x * m + y)) (b := 5) (by decide)
      have m3 := fmod_lo ((ixv L (x * m + y)).fdiv 5) (b := 2) (by decide)
      have m4 := fmod_hi ((ixv L (x * m + y)).fdiv 5) (b := 2) (by decide)
      generalize hu : (ixv L (x * m + y)).fmod 5 = u at m1 m2
      generalize hv : ((ixv L (x * m + y)).fdiv 5).fmod 2 = v at m3 m4
      have euv : oMul (.int u) (.int v) = .ok (.int (u * v)) := oMul_l (by omega) (by omega)
      have uv : 0 ≤ u * v ∧ u * v ≤ 4 := by
        have a : u * v ≤ u * 1 := Int.mul_le_mul_of_nonneg_left (by omega) m1
        exact ⟨Int.mul_nonneg m1 m3, by omega⟩
      -- the next cost
      have next : ∃ c2 : Int, c1 ≤ c2 ∧ c2 ≤ c1 + 4 ∧ (if 0 < y then c1 + u * v else c1) = c2 := ⟨_, by split <;> omega, by split <;> omega, rfl⟩
      obtain ⟨c2, n1, n2, n3⟩ := next
      have step : ∀ z ∈ r, z ≤ cst g c2 y x := fun z hz => by
        have h := hb z hz
        refine Int.le_trans h ?_
        unfold cst
        cases g with
        | false => simpa using n1
        | true =>
          have : c1 * 1000000000000000000000000000000 ≤ c2 * 1000000000000000000000000000000 := Int.mul_le_mul_of_nonneg_right n1 (by decide)
          simp
          omega
      refine ⟨[some (.d (.int c)), some (.d (.int n)), some (.d (.int m)), some (.d (.bool g)), some (.d (li L)), some (.own (R.map tu)), some (.d (.int x)), some (.d (.int c2)), some (.own ((r ++ [cst g c2 y x]).map .int)), some (.d (.int y)), some (.d (.int (ixv L (x * m + y))))], ?_, y + 1, c2, _, _, _, rfl, rfl, by omega, by omega, by simp; omega, ?_, fun z hz => ?_, by omega, by omega⟩
      · have eb : oMul (.int c2) (.int 1000000000000000000000000000000) = .ok (.int (c2 * 1000000000000000000000000000000)) := oMul_l (by omega) (by omega)
        by_cases hy : 0 < y
        · rw [if_pos hy] at n3
          cases g <;> simp [b_law_costs_1, ex, exm, oMod_int, oDiv_lit, hu, hv, euv, hy, n3, eb, hs, cst]
        · rw [if_neg hy] at n3
          subst n3
          cases g <;> simp [b_law_costs_1, ex, exm, oMod_int, oDiv_lit, hu, hv, euv, hy, eb, hs, cst]
      · exact List.pairwise_append.mpr ⟨hp, List.pairwise_singleton _ _, fun a ha b hb2 => by rw [List.mem_singleton.mp hb2]; exact step a ha⟩
      · rw [show y + 1 - 1 = y by omega]
        rcases List.mem_append.mp hz with h | h
        · exact step z h
        · rw [List.mem_singleton.mp h]; exact Int.le_refl _)
    obtain ⟨ρ', e, k, c1, r, o9', o10', rfl, hx, k0, k1, hr, hp, _⟩ := key (rangeI 0 m) [some (.d (.int c)), some (.d (.int n)), some (.d (.int m)), some (.d (.bool g)), some (.d (li L)), some (.own (R.map tu)), some (.d (.int x)), some (.d (.int c0)), some (.own []), o9, o10] ⟨0, c0, [], o9, o10, rfl, rfl, by omega, h2, rfl, .nil, by simp, by omega, by omega⟩
    have ek : k = m := by
      by_cases h : k < m
      · rw [rangeI_cons h] at hx; cases hx
      · omega
    exact ⟨r, c1, o9', o10', e, by omega, hp⟩
  have key := forGo_inv (i := 6) (g := b_law_costs_2) (enc := PyData.int) (fun xs ρ => ∃ (k : Int) (R : List (List Int)) (o6 o7 o8 o9 o10 : Option Sl), ρ = [some (.d (.int c)), some (.d (.int n)), some (.d (.int m)), some (.d (.bool g)), some (.d (li L)), some (.own (R.map tu)), o6, o7, o8, o9, o10] ∧ xs = rangeI k n ∧ 0 ≤ k ∧ k ≤ n ∧ Rows k m R) (by
    rintro x xs ρ ⟨k, R, o6, o7, o8, o9, o10, rfl, hx, k0, k1, hR⟩
    obtain ⟨hk1, rfl, rfl⟩ := rangeI_inv hx
    have hs : R.length < sizeLine := line_lt (by have := hR.1; omega)
    have hxm0 : 0 ≤ x * m := Int.mul_nonneg k0 h2
    have hxm : x * m + m ≤ n * m := by
      have a : (x + 1) * m ≤ n * m := Int.mul_le_mul_of_nonneg_right (by omega) h2
      rw [Int.add_mul, Int.one_mul] at a
      exact a
    have exm : oMul (.int x) (.int m) = .ok (.int (x * m)) := oMul_l (by omega) (by omega)
    have ex := ix_li (L := L) (i := x * m) (by omega) (by omega)
    have m1 := fmod_lo (ixv L (x * m)) (b := 9) (by decide)
    have m2 := fmod_hi (ixv L (x * m)) (b := 9) (by decide)
    generalize hu : (ixv L (x * m)).fmod 9 = u at m1 m2
    obtain ⟨r, c1, o9', o10', e, hr, hp⟩ := row x R o10 k0 hk1 (u - 3) (by omega) (by omega) o9
    refine ⟨[some (.d (.int c)), some (.d (.int n)), some (.d (.int m)), some (.d (.bool g)), some (.d (li L)), some (.own ((R ++ [r]).map tu)), some (.d (.int x)), some (.d (.int c1)), some (.d (li r)), o9', o10'], ?_, x + 1, _, _, _, _, _, _, rfl, rfl, by omega, by omega, by have := hR.1; simp; omega, fun y hy => ?_⟩
    · simp [b_law_costs_2, exm, ex, oMod_int, hu, rngA1_ok (n := m) (by omega) (by omega), e, hs]
    · rcases List.mem_append.mp hy with h | h
      · exact hR.2 y h
      · rw [List.mem_singleton.mp h]; exact ⟨hr, hp⟩)
  obtain ⟨ρ', e, k, R, o6, o7, o8, o9, o10, rfl, hx, k0, k1, hR⟩ := key (rangeI 0 n) [some (.d (.int c)), some (.d (.int n)), some (.d (.int m)), some (.d (.bool g)), some (.d (li L)), some (.own []), none, none, none, none, none] ⟨0, [], none, none, none, none, none, rfl, rfl, by omega, h0, rfl, by simp⟩
  have ek : k = n := by
    by_cases h : k < n
    · rw [rangeI_cons h] at hx; cases hx
    · omega
  subst ek
  refine ⟨R, ?_, hR⟩
  simp [g_law_costs, emul, e1, rngA1_ok (n := k) (by omega) (by omega), e]

/-! ### games -/
def tkD (n : Int) (p : Pl) : PyData := .tuple [ofr n p.ls, tt p.C]
def gmD (n : Int) (ps : List Pl) : PyData := .tuple (ps.map (tkD n))
structure Game (n : Int) (ps : List Pl) : Prop extends Play n ps where
  one : ∀ p ∈ ps, p.w = 1
  up : ∀ p ∈ ps, ∀ r ∈ p.C, r.Pairwise (· ≤ ·)
theorem sum_one {ps : List Pl} (h : ∀ p ∈ ps, p.w = 1) : (ps.map fun p => p.w).sum = ps.length := by
  induction ps with
  | nil => rfl
  | cons p ps ih =>
    rw [List.map_cons, List.sum_cons, ih fun q hq => h q (List.mem_cons_of_mem _ hq), h p List.mem_cons_self, List.length_cons]
    omega
theorem v_law_game (ns : List Int) (f : Int) (sm : Bool) (hf : 0 ≤ f) : ∃ (n : Int) (ps : List Pl), m_law_game [li ns, .int f, .bool sm] = .ok (gmD n ps) ∧ Game n ps ∧ n ≤ 5 ∧ ps.length ≤ 3 ∧ (sm = true → ∀ p ∈ ps, Smooth n p.ls) := by
  show ∃ (n : Int) (ps : List Pl), endR (g_law_game [some (.d (li ns)), some (.d (.int f)), some (.d (.bool sm)), none, none, none, none, none, none, none, none, none]) = _ ∧ _
  obtain ⟨c0, e0⟩ := v_cell ns f hf
  obtain ⟨L, eL, hL, bL⟩ := v_draws c0 8 (by decide) (by decide)
  have hL2 : L.length = 8 := hL
  have e30 := ix_li (L := L) (i := 0) (by decide) (by omega)
  have e31 := ix_li (L := L) (i := 1) (by decide) (by omega)
  have e33 := ix_li (L := L) (i := 3) (by decide) (by omega)
  have f8a := fmod_lo (ixv L 0) (b := 8) (by decide)
  have f8b := fmod_hi (ixv L 0) (b := 8) (by decide)
  have e8 := ix_tu (L := [1, 2, 2, 2, 3, 3, 2, 0]) (i := (ixv L 0).fmod 8) f8a (by simpa using f8b)
  have m8 : ixv [1, 2, 2, 2, 3, 3, 2, 0] ((ixv L 0).fmod 8) ∈ [1, 2, 2, 2, 3, 3, 2, 0] := ixv_mem f8a (by simpa using f8b)
  generalize ixv [1, 2, 2, 2, 3, 3, 2, 0] ((ixv L 0).fmod 8) = T at e8 m8
  have hT : 0 ≤ T ∧ T ≤ 3 := by
    simp only [List.mem_cons, List.not_mem_nil, or_false] at m8
    omega
  have g8a := fmod_lo (ixv L 1) (b := 8) (by decide)
  have g8b := fmod_hi (ixv L 1) (b := 8) (by decide)
  have e9 := ix_tu (L := [3, 4, 3, 2, 5, 1, 4, 0]) (i := (ixv L 1).fmod 8) g8a (by simpa using g8b)
  have m9 : ixv [3, 4, 3, 2, 5, 1, 4, 0] ((ixv L 1).fmod 8) ∈ [3, 4, 3, 2, 5, 1, 4, 0] := ixv_mem g8a (by simpa using g8b)
  generalize ixv [3, 4, 3, 2, 5, 1, 4, 0] ((ixv L 1).fmod 8) = n at e9 m9
  have hn : 0 ≤ n ∧ n ≤ 5 := by
    simp only [List.mem_cons, List.not_mem_nil, or_false] at m9
    omega
  have key := forGo_inv (i := 7) (g := b_law_game_1) (enc := PyData.int) (fun xs ρ => ∃ (k : Int) (ps : List Pl) (o7 o8 o9 o10 o11 : Option Sl), ρ = [some (.d (li ns)), some (.d (.int f)), some (.d (.bool sm)), some (.d (li L)), some (.d (.int T)), some (.d (.int n)), some (.own (ps.map (tkD n))), o7, o8, o9, o10, o11] ∧ xs = rangeI k T ∧ 0 ≤ k ∧ k ≤ T ∧ (ps.length : Int) = k ∧
      ∀ p ∈ ps, Good n p.ls ∧ (∃ m, T ≤ m ∧ Rows n m p.C) ∧ p.w = 1 ∧ (sm = true → Smooth n p.ls)) (by
    rintro x xs ρ ⟨k, ps, o7, o8, o9, o10, o11, rfl, hx, k0, k1, hl, hp⟩
    obtain ⟨hk1, rfl, rfl⟩ := rangeI_inv hx
    have hs : ps.length < sizeLine := line_lt (by omega)
    obtain ⟨c1, e1⟩ := v_cell ns (f + 1 + 2 * x) (by omega)
    obtain ⟨c2, e2⟩ := v_cell ns (f + 2 + 2 * x) (by omega)
    have e34 := ix_li (L := L) (i := 4 + x) (by omega) (by omega)
    have m1 := fmod_lo (ixv L (4 + x)) (b := 3) (by decide)
    have m2 := fmod_hi (ixv L (4 + x)) (b := 3) (by decide)
    generalize hu : (ixv L (4 + x)).fmod 3 = u at m1 m2
    obtain ⟨C, e3, hC⟩ := v_costs c2 n (T + u) ((ixv L 3).fmod 8 == 1) hn.1 (by omega) (by omega) (by omega)
    have e2x : oMul (.int 2) (.int x) = .ok (.int (2 * x)) := oMul_l (by decide) (by decide)
    have lots : ∃ ls : List (List Int), (if sm = true then m_law_smooth_lots_k03 [.int c1, .int n] else m_law_lots_k03 [.int c1, .int n]) = .ok (tt ls) ∧ Good n ls ∧ (sm = true → Smooth n ls) := by
      cases sm with
      | true =>
        obtain ⟨ls, q1, q2⟩ := v_smooth3 c1 n hn.1 (by omega)
        exact ⟨ls, q1, q2.good, fun _ => q2⟩
      | false =>
        obtain ⟨ls, q1, q2⟩ := v_lots3 c1 n hn.1 (by omega)
        exact ⟨ls, q1, q2, fun z => by cases z⟩
    obtain ⟨ls, q1, q2, q3⟩ := lots
    have et : PyData.tuple [.tuple [.int n, tt ls], tt C] = tkD n ⟨ls, C, 1⟩ := rfl
    refine ⟨[some (.d (li ns)), some (.d (.int f)), some (.d (.bool sm)), some (.d (li L)), some (.d (.int T)), some (.d (.int n)), some (.own ((ps ++ [(⟨ls, C, 1⟩ : Pl)]).map (tkD n))), some (.d (.int x)), some (.d (.int c1)), some (.d (tt ls)), some (.d (.int (T + u))), some (.d (tt C))], ?_, x + 1, _, _, _, _, _, _, rfl, rfl, by omega, by omega, by simp; omega, fun p hp2 => ?_⟩
    · cases sm with
      | true =>
        rw [if_pos rfl] at q1
        simp [b_law_game_1, e2x, e1, e2, q1, e34, e33, oMod_int, hu, e3, et, hs]
      | false =>
        rw [if_neg (by decide)] at q1
        simp [b_law_game_1, e2x, e1, e2, q1, e34, e33, oMod_int, hu, e3, et, hs]
    · rcases List.mem_append.mp hp2 with h | h
      · exact hp p h
      · rw [List.mem_singleton.mp h]
        exact ⟨q2, ⟨T + u, by omega, hC⟩, rfl, q3⟩)
  obtain ⟨ρ', e, k, ps, o7, o8, o9, o10, o11, rfl, hx, k0, k1, hl, hp⟩ := key (rangeI 0 T) [some (.d (li ns)), some (.d (.int f)), some (.d (.bool sm)), some (.d (li L)), some (.d (.int T)), some (.d (.int n)), some (.own []), none, none, none, none, none] ⟨0, [], none, none, none, none, none, rfl, rfl, by omega, hT.1, rfl, by simp⟩
  have ek : k = T := by
    by_cases h : k < T
    · rw [rangeI_cons h] at hx; cases hx
    · omega
  subst ek
  refine ⟨n, ps, ?_, ⟨⟨hn.1, by omega, fun p h => (hp p h).1, fun p h => ?_, fun p h r hr => ?_, fun p h => by rw [(hp p h).2.2.1]; decide⟩, fun p h => (hp p h).2.2.1, fun p h r hr => ?_⟩, hn.2, by omega, fun hs p h => (hp p h).2.2.2 hs⟩
  · simp [g_law_game, e0, eL, e30, e31, oMod_int, e8, e9, rngA1_ok (n := k) (by omega) (by omega), e]
    rfl
  · obtain ⟨m, _, hm⟩ := (hp p h).2.1
    exact hm.1
  · obtain ⟨m, h1, hm⟩ := (hp p h).2.1
    rw [sum_one fun p h => (hp p h).2.2.1, (hm.2 r hr).1]
    omega
  · obtain ⟨m, h1, hm⟩ := (hp p h).2.1
    exact (hm.2 r hr).2
theorem ix_tk {ps : List Pl} {n i : Int} (h0 : 0 ≤ i) (h1 : i < (ps.length : Int)) : oIx (gmD n ps) (.int i) = .ok (tkD n (plx ps i)) := by
  have hl : i.toNat < ps.length := by omega
  have e : (ps)[i.toNat]? = some (plx ps i) := by
    unfold plx
    rw [List.getElem?_eq_getElem hl]; rfl
  show (match atI (ps.map (tkD n)) i with | some d => R.ok d | none => .bad) = _
  rw [atI_get (tkD n) h0 e]
theorem len_gm (n : Int) (ps : List Pl) : bLen [gmD n ps] = .ok (.int ps.length) := by simp [bLen, gmD]
theorem v_choice (c n : Int) (ps : List Pl) (P : Play n ps) (hz : ps.length ≤ 900) : ∃ ch : List (List Int), m_law_choice [.int c, gmD n ps] = .ok (tt ch) ∧ Chs ps ch := by
  show ∃ ch : List (List Int), endR (g_law_choice [some (.d (.int c)), some (.d (gmD n ps)), none, none]) = _ ∧ _
  obtain ⟨L, eL, hL, bL⟩ := v_draws c (ps.length + 1) (by omega) (by omega)
  have f1 : ∀ i, 0 ≤ i → i < (ps.length : Int) → 0 ≤ (ixv L i).fmod ((plx ps i).ls.length : Int) ∧ (ixv L i).fmod ((plx ps i).ls.length : Int) < ((plx ps i).ls.length : Int) := fun i i0 i1 => by
    have := List.length_pos_iff.mpr (P.good _ (plx_mem i0 i1)).ne
    exact ⟨fmod_lo _ (by omega), fmod_hi _ (by omega)⟩
  refine ⟨(rangeI 0 ps.length).map fun i => ixr (plx ps i).ls ((ixv L i).fmod ((plx ps i).ls.length : Int)), ?_, by rw [List.length_map, rangeI_len]; omega, fun i i0 i1 => ?_⟩
  · simp [g_law_choice, len_gm, eL, rngA1_ok (n := ps.length) (by omega) (by omega), -List.map_map]
    rw [lcR_mem (g := fun i => tu (ixr (plx ps i).ls ((ixv L i).fmod ((plx ps i).ls.length : Int))))]
    · simp
    · intro i hi
      obtain ⟨i0, i1⟩ := mem_rangeI.mp hi
      have f := f1 i i0 i1
      have hp := List.length_pos_iff.mpr (P.good _ (plx_mem i0 i1)).ne
      have n0 : ((plx ps i).ls.length : Int) ≠ 0 := by omega
      have o1 : oIx (tkD n (plx ps i)) (.int 0) = .ok (ofr n (plx ps i).ls) := rfl
      have o2 : oIx (ofr n (plx ps i).ls) (.int 1) = .ok (tt (plx ps i).ls) := rfl
      simp [ix_tk i0 i1, o1, o2, ix_li (L := L) (i := i) i0 (by omega), oMod_int n0, ix_tt f.1 f.2]
  · have hl : i.toNat < ps.length := by omega
    have f := f1 i i0 i1
    have : ixr ((rangeI 0 ps.length).map fun i => ixr (plx ps i).ls ((ixv L i).fmod ((plx ps i).ls.length : Int))) i = ixr (plx ps i).ls ((ixv L i).fmod ((plx ps i).ls.length : Int)) := by
      unfold ixr
      rw [List.getElem?_map, rangeI_get (by omega)]
      have : (0 : Int) + (i.toNat : Nat) = i := by omega
      rw [this]
      rfl
    rw [this]
    exact ixr_mem f.1 f.2
theorem v_players (n : Int) (ps : List Pl) (h : ∀ p ∈ ps, p.w = 1) : m_players [gmD n ps] = .ok (.list (ps.map (plD n))) := by
  show endR (g_players [some (.d (gmD n ps)), none, none]) = _
  have e := lc_of (enc := tkD n) (fi := dItems (dVar 0)) (t := .tp [.nm 1, .nm 2]) (ft := dYes) (fe := dTup (dCons (dVar 1) (dCons (dVar 2) (dCons (dC (.int 1)) dNil)))) (vs := [1, 2]) (ρ := [some (.d (gmD n ps)), none, none]) (xs := ps) (st := fun p => [some (.d (gmD n ps)), some (.d (ofr n p.ls)), some (.d (tt p.C))]) (q := fun _ => true) (g := plD n) rfl fun p hp => ⟨by simp [tkD], rfl, fun _ => by simp [plD, h p hp]⟩
  rw [List.filter_eq_self.mpr (fun _ _ => rfl)] at e
  unfold g_players
  rw [ev_ret, e]
  rfl
theorem v_own_prices (n : Int) (ps : List Pl) (ch : List (List Int)) (i : Int) (G : Game n ps) (c : Chs ps ch) (h0 : 0 ≤ i) (h1 : i < (ps.length : Int)) : m_own_prices [gmD n ps, tt ch, .int i] = .ok (tu ((rangeI 0 n).map (opr ps ch i))) := by
  show endR (g_own_prices [some (.d (gmD n ps)), some (.d (tt ch)), some (.d (.int i))]) = _
  simp [g_own_prices, v_players n ps G.one, v_prices_for n ps ch i G.toPlay c h0 h1, -List.map_map]
end LW

set_option Elab.async false
set_option maxRecDepth 100000
set_option linter.all false
set_option maxHeartbeats 2000000
namespace LW
open PySem PySem.Spec PyProof.Rows L2 PD

/-- with weights of 1: the number of lots that have x -/
def load (ch : List (List Int)) (x : Int) : Int := ((ch.filter fun l => decide (x ∈ l)).length : Int)
theorem wl_load : ∀ {ps : List Pl} {ch : List (List Int)}, (∀ p ∈ ps, p.w = 1) → ch.length = ps.length → ∀ x, wl ps ch x = load ch x
  | [], [], _, _, x => rfl
  | [], _ :: _, _, e, _ => by cases e
  | _ :: _, [], _, e, _ => by cases e
  | p :: ps, l :: ch, h, e, x => by
    have ih := wl_load (ps := ps) (ch := ch) (fun q hq => h q (List.mem_cons_of_mem _ hq)) (by simpa using e) x
    have hw := h p List.mem_cons_self
    have e1 : wl (p :: ps) (l :: ch) x = (if x ∈ l then p.w else 0) + wl ps ch x := rfl
    rw [e1, ih, hw]
    unfold load
    by_cases hx : x ∈ l
    · rw [if_pos hx, List.filter_cons_of_pos (by simpa using hx), List.length_cons]; omega
    · rw [if_neg hx, List.filter_cons_of_neg (by simpa using hx)]; omega
/-- what a taker pays -/
def payD (ps : List Pl) (ch : List (List Int)) (i : Int) : Int := ((ixr ch i).map fun x => cost (plx ps i).C x (wl ps ch x)).sum
theorem sum_congr {l : List Int} {f g : Int → Int} (h : ∀ x ∈ l, f x = g x) : (l.map f).sum = (l.map g).sum := by rw [List.map_congr_left h]
theorem pr_range {n : Int} {f : Int → Int} {l : List Int} (h : Asc n l) : pr ((rangeI 0 n).map f) l = (l.map f).sum := sum_congr fun x hx => by
  obtain ⟨a, b⟩ := h.2 x hx
  rw [ixv_map a (by rw [rangeI_len]; omega), ixv_range a b]
theorem pay_opr {n : Int} {ps : List Pl} {ch : List (List Int)} {i : Int} (a : Asc n (ixr ch i)) : pr ((rangeI 0 n).map (opr ps ch i)) (ixr ch i) = payD ps ch i := by
  rw [pr_range a]
  refine sum_congr fun x hx => ?_
  unfold opr
  rw [if_pos hx, Int.add_zero]
theorem chs_asc {n : Int} {ps : List Pl} {ch : List (List Int)} (P : Play n ps) (c : Chs ps ch) {i : Int} (h0 : 0 ≤ i) (h1 : i < (ps.length : Int)) : Asc n (ixr ch i) := (P.good _ (plx_mem h0 h1)).asc _ (c.mem i h0 h1)
theorem v_pay (n : Int) (ps : List Pl) (ch : List (List Int)) (i : Int) (G : Game n ps) (c : Chs ps ch) (h0 : 0 ≤ i) (h1 : i < (ps.length : Int)) : m_pay [gmD n ps, tt ch, .int i] = .ok (.int (payD ps ch i)) := by
  show endR (g_pay [some (.d (gmD n ps)), some (.d (tt ch)), some (.d (.int i))]) = _
  have a := chs_asc G.toPlay c h0 h1
  have e := v_price ((rangeI 0 n).map (opr ps ch i)) (ixr ch i) fun x hx => by
    have := a.2 x hx
    rw [List.length_map, rangeI_len]
    omega
  rw [pay_opr a] at e
  simp [g_pay, ix_tt (L := ch) h0 (by rw [c.len]; exact h1), v_own_prices n ps ch i G c h0 h1, e, -List.map_map]
theorem v_loads (n : Int) (ps : List Pl) (ch : List (List Int)) (G : Game n ps) (c : Chs ps ch) : m_loads [gmD n ps, tt ch] = .ok (tu ((rangeI 0 (if ps = [] then 0 else n)).map (load ch))) := by
  show endR (g_loads [some (.d (gmD n ps)), some (.d (tt ch)), none]) = _
  have ew : wl ps ch = load ch := funext fun x => wl_load G.one c.len x
  have ep := v_players n ps G.one
  by_cases hz : ps = []
  · subst hz
    have hc : ch = [] := List.length_eq_zero_iff.mp c.len
    subst hc
    have e : m_count_loads [.int 0, .list [], tt []] = .ok (tu ((rangeI 0 0).map (wl [] []))) := v_count_loads 0 [] [] (by decide) (by decide) (by simp)
    rw [ew] at e
    have ep : m_players [gmD n []] = .ok (.list []) := ep
    have e0 : bLen [gmD n []] = .ok (.int 0) := rfl
    simp [g_loads, e0, ep, e, -List.map_map]
  · have hp := List.length_pos_iff.mpr hz
    have e := v_count_loads n ps ch G.n0 G.n1 (c.asc G.toPlay)
    rw [ew] at e
    have g : (0 : Int) < (ps.length : Int) := by omega
    have o1 : oIx (tkD n (plx ps 0)) (.int 0) = .ok (ofr n (plx ps 0).ls) := rfl
    have o2 : oIx (ofr n (plx ps 0).ls) (.int 0) = .ok (.int n) := rfl
    simp [g_loads, len_gm, hp, ix_tk (n := n) (by decide) g, o1, o2, ep, e, hz, -List.map_map]
theorem v_law_loads (ch : List (List Int)) (n : Int) (h0 : 0 ≤ n) (h1 : n ≤ 900) : m_law_loads [tt ch, .int n] = .ok (li ((rangeI 0 n).map (load ch))) := by
  show endR (g_law_loads [some (.d (tt ch)), some (.d (.int n)), none, none]) = _
  simp [g_law_loads, rngA1_ok (n := n) (by omega) (by omega)]
  rfl
theorem v_law_pay (n : Int) (ps : List Pl) (ch : List (List Int)) (i : Int) (G : Game n ps) (c : Chs ps ch) (h0 : 0 ≤ i) (h1 : i < (ps.length : Int)) : m_law_pay [gmD n ps, tt ch, .int i] = .ok (.int (payD ps ch i)) := by
  show endR (g_law_pay [some (.d (gmD n ps)), some (.d (tt ch)), some (.d (.int i)), none, none, none]) = _
  have hm := plx_mem h0 h1
  have a := chs_asc G.toPlay c h0 h1
  have o1 : oIx (tkD n (plx ps i)) (.int 1) = .ok (tt (plx ps i).C) := rfl
  have hr := G.rows _ hm
  have e1 := v_law_loads ch (plx ps i).C.length (by omega) (by have := G.n1; omega)
  rw [hr] at e1
  have e2 : lcR (fun _ => R.ok true) (fun x : Int => oIx (tt (plx ps i).C) (.int x) >>= fun a => (oIx (li ((rangeI 0 n).map (load ch))) (.int x) >>= fun a => oSub a (.int 1)) >>= fun b => oIx a b) (ixr ch i) = .ok ((ixr ch i).map fun x => PyData.int (cost (plx ps i).C x (wl ps ch x))) := lcR_mem fun x hx => by
    obtain ⟨x0, x1⟩ := a.2 x hx
    have see := wl_see G.toPlay c h0 h1 x
    rw [if_pos hx, Int.add_zero] at see
    have rl := G.room _ hm (ixr (plx ps i).C x) (ixr_mem x0 (by omega))
    have e3 : oIx (li ((rangeI 0 n).map (load ch))) (.int x) = .ok (.int (wl ps ch x)) := by
      rw [ix_li x0 (by rw [List.length_map, rangeI_len]; omega), ixv_map x0 (by rw [rangeI_len]; omega), ixv_range x0 x1, wl_load G.one c.len]
    simp [ix_tt (L := (plx ps i).C) x0 (by omega), e3, ix_tu (L := ixr (plx ps i).C x) (i := wl ps ch x - 1) (by omega) (by omega), cost]
  have bl : bLen [tt (plx ps i).C] = .ok (.int n) := by rw [bLen_tt, hr]
  simp [g_law_pay, ix_tk (n := n) h0 h1, o1, bl, e1, ix_tt (L := ch) h0 (by rw [c.len]; exact h1), -List.map_map]
  rw [e2]
  simp [payD]
theorem v_tells19 (n : Int) (ps : List Pl) (ch : List (List Int)) (G : Game n ps) (c : Chs ps ch) (hz : ps.length ≤ 900) : m_law_tells_k19 [gmD n ps, tt ch] = .ok (.bool true) := by
  show endR (g_law_tells_k19 [some (.d (gmD n ps)), some (.d (tt ch)), none, none, none, none, none]) = _
  generalize hN : (if ps = [] then 0 else n) = N
  have hN0 : 0 ≤ N ∧ N ≤ 900 := by
    have a := G.n0
    have b := G.n1
    split at hN <;> omega
  have e1 := v_loads n ps ch G c
  rw [hN] at e1
  have e2 := v_law_loads ch N hN0.1 hN0.2
  have key := forGo_inv (i := 4) (g := b_law_tells_k19_1) (enc := PyData.int) (fun xs ρ => ∃ (o4 o5 : Option Sl), ρ = [some (.d (gmD n ps)), some (.d (tt ch)), some (.d (.int N)), some (.d (tu ((rangeI 0 N).map (load ch)))), o4, o5, none] ∧ ∀ i ∈ xs, 0 ≤ i ∧ i < (ps.length : Int)) (by
    rintro i xs ρ ⟨o4, o5, rfl, hx⟩
    obtain ⟨i0, i1⟩ := hx i List.mem_cons_self
    refine ⟨[some (.d (gmD n ps)), some (.d (tt ch)), some (.d (.int N)), some (.d (tu ((rangeI 0 N).map (load ch)))), some (.d (.int i)), some (.d (.int (payD ps ch i))), none], ?_, _, _, rfl, fun y hy => hx y (List.mem_cons_of_mem _ hy)⟩
    simp [b_law_tells_k19_1, v_pay n ps ch i G c i0 i1, v_law_pay n ps ch i G c i0 i1, v_integer, -List.map_map])
  obtain ⟨ρ', e, o4, o5, rfl, _⟩ := key (rangeI 0 ps.length) [some (.d (gmD n ps)), some (.d (tt ch)), some (.d (.int N)), some (.d (tu ((rangeI 0 N).map (load ch)))), none, none, none] ⟨none, none, rfl, fun i hi => mem_rangeI.mp hi⟩
  have ez : (if (0 : Int) < (ps.length : Int) then n else 0) = N := by
    rw [← hN]
    by_cases h : ps = []
    · subst h; rfl
    · have := List.length_pos_iff.mpr h
      rw [if_pos (by omega), if_neg h]
  have o1 : oIx (tkD n (plx ps 0)) (.int 0) = .ok (ofr n (plx ps 0).ls) := rfl
  have o2 : oIx (ofr n (plx ps 0).ls) (.int 0) = .ok (.int n) := rfl
  have ei : lcR (fun _ => R.ok true) (fun x : Int => m_law_is_integer [.int x]) ((rangeI 0 N).map (load ch)) = .ok (((rangeI 0 N).map (load ch)).map fun _ => PyData.bool true) := lcR_mem fun x _ => v_integer x
  have ea : bAll [.list (((rangeI 0 N).map (load ch)).map fun _ => PyData.bool true)] = .ok (.bool true) := by
    rw [bAll_map (fun _ => true)]
    simp
  generalize ((rangeI 0 N).map (load ch)).map (fun _ => PyData.bool true) = W at ei ea
  generalize hLd : (rangeI 0 N).map (load ch) = Ld at e1 e2 e ei
  by_cases hp : (0 : Int) < (ps.length : Int)
  · rw [if_pos hp] at ez
    subst ez
    have hp2 : 0 < ps.length := by omega
    simp [g_law_tells_k19, len_gm, hp2, ix_tk (n := n) (by decide) hp, o1, o2, e1, e2, isi_tu, ei, ea, rngA1_ok (n := ps.length) (by omega) (by omega), e]
  · rw [if_neg hp] at ez
    subst ez
    have hp2 : ¬ 0 < ps.length := by omega
    simp [g_law_tells_k19, len_gm, hp2, e1, e2, isi_tu, ei, ea, rngA1_ok (n := ps.length) (by omega) (by omega), e]
theorem main_k19 (ns : List Int) (hn : ns.length ≤ 63) : m_law_k19 [.list (ns.map .int)] = .ok (.bool true) := by
  show endR (g_law_k19 [some (.d (li ns)), none, none, none]) = _
  obtain ⟨n, ps, e1, G, hn5, hp3, _⟩ := v_law_game ns 0 false (by decide)
  obtain ⟨c8, e8⟩ := v_cell ns 8 (by decide)
  obtain ⟨c9, e9⟩ := v_cell ns 9 (by decide)
  obtain ⟨ch, e2, c⟩ := v_choice c8 n ps G.toPlay (by omega)
  obtain ⟨ch2, e3, d⟩ := v_choice c9 n ps G.toPlay (by omega)
  simp [g_law_k19, e1, e8, e9, e2, e3, v_tells19 n ps ch G c (by omega), v_tells19 n ps ch2 G d (by omega)]
end LW

set_option Elab.async false
set_option maxRecDepth 100000
set_option linter.all false
set_option maxHeartbeats 2000000
namespace LW
open PySem PySem.Spec PyProof.Rows L2 PD

/-! ### one taker has another lot -/
def withL (ch : List (List Int)) (i : Int) (l : List Int) : List (List Int) := ch.set i.toNat l
theorem oAdd_tt {a b : List (List Int)} (h : a.length + b.length ≤ 100000) : oAdd (tt a) (tt b) = .ok (tt (a ++ b)) := by
  show (if (a.map tu).length + (b.map tu).length ≤ sizeLine then R.ok (PyData.tuple (a.map tu ++ b.map tu)) else .bad) = _
  rw [List.length_map, List.length_map, if_pos (by rw [sizeLine_eq]; omega), ← List.map_append]
  rfl
theorem tt_1 (a : List Int) : PyData.tuple [tu a] = tt [a] := rfl
theorem cut_to {ch : List (List Int)} {k : Nat} (h : k ≤ ch.length) : oCut (tt ch) none (some (k : Int)) = .ok (tt (ch.take k)) := by
  show R.ok (PyData.tuple (PD.cutD (ch.map tu) none (some (k : Int)))) = _
  unfold PD.cutD
  rw [HT.sIx_nat, HT.sIx_none, List.length_map, Nat.min_eq_left h, List.drop_zero, Nat.sub_zero, ← List.map_take]
  rfl
theorem cut_from {ch : List (List Int)} {k : Nat} (h : k ≤ ch.length) : oCut (tt ch) (some (k : Int)) none = .ok (tt (ch.drop k)) := by
  show R.ok (PyData.tuple (PD.cutD (ch.map tu) (some (k : Int)) none)) = _
  unfold PD.cutD
  rw [HT.sIx_nat, HT.sIx_none, List.length_map, Nat.min_eq_left h, ← List.map_drop, List.take_of_length_le (by rw [List.length_map, List.length_drop]; omega)]
  rfl
theorem cut_to' {ch : List (List Int)} {i : Int} (h0 : 0 ≤ i) (h1 : i < (ch.length : Int)) : oCut (tt ch) none (some i) = .ok (tt (ch.take i.toNat)) := by
  have := cut_to (ch := ch) (k := i.toNat) (by omega)
  rwa [show ((i.toNat : Nat) : Int) = i by omega] at this
theorem cut_from' {ch : List (List Int)} {i : Int} (h0 : 0 ≤ i) (h1 : i < (ch.length : Int)) : oCut (tt ch) (some (i + 1)) none = .ok (tt (ch.drop (i.toNat + 1))) := by
  have := cut_from (ch := ch) (k := i.toNat + 1) (by omega)
  rwa [show ((i.toNat + 1 : Nat) : Int) = i + 1 by omega] at this
theorem with_eq {ch : List (List Int)} {i : Int} {l : List Int} (h0 : 0 ≤ i) (h1 : i < (ch.length : Int)) : ch.take i.toNat ++ [l] ++ ch.drop (i.toNat + 1) = withL ch i l := by
  unfold withL
  rw [List.set_eq_take_append_cons_drop, if_pos (by omega), List.append_assoc]
  rfl
theorem v_law_with (ch : List (List Int)) (i : Int) (l : List Int) (h0 : 0 ≤ i) (h1 : i < (ch.length : Int)) (hz : ch.length ≤ 900) : m_law_with [tt ch, .int i, tu l] = .ok (tt (withL ch i l)) := by
  show endR (g_law_with [some (.d (tt ch)), some (.d (.int i)), some (.d (tu l))]) = _
  have a1 : oAdd (tt (ch.take i.toNat)) (tt [l]) = .ok (tt (ch.take i.toNat ++ [l])) := oAdd_tt (by rw [List.length_take, List.length_singleton]; omega)
  have a2 : oAdd (tt (ch.take i.toNat ++ [l])) (tt (ch.drop (i.toNat + 1))) = .ok (tt (withL ch i l)) := by
    rw [oAdd_tt (by rw [List.length_append, List.length_take, List.length_singleton, List.length_drop]; omega), with_eq h0 h1]
  simp [g_law_with, cut_to' h0 h1, cut_from' h0 h1, tt_1, a1, a2]
theorem with_at {ch : List (List Int)} {i j : Int} {l : List Int} (h0 : 0 ≤ i) (h1 : i < (ch.length : Int)) (hj : 0 ≤ j) : ixr (withL ch i l) j = if j = i then l else ixr ch j := by
  unfold withL ixr
  by_cases e : j = i
  · subst e
    rw [if_pos rfl, List.getElem?_set_self (by omega)]
    rfl
  · rw [if_neg e, List.getElem?_set_ne (by omega)]
theorem with_len {ch : List (List Int)} {i : Int} {l : List Int} : (withL ch i l).length = ch.length := by unfold withL; rw [List.length_set]
theorem Chs.with {ps : List Pl} {ch : List (List Int)} {i : Int} {l : List Int} (c : Chs ps ch) (h0 : 0 ≤ i) (h1 : i < (ps.length : Int)) (hl : l ∈ (plx ps i).ls) : Chs ps (withL ch i l) :=
  ⟨by rw [with_len]; exact c.len, fun j j0 j1 => by
    rw [with_at h0 (by rw [c.len]; exact h1) j0]
    by_cases e : j = i
    · rw [if_pos e, e]; exact hl
    · rw [if_neg e]; exact c.mem j j0 j1⟩
theorem wlz_set : ∀ {ps : List Pl} {ch : List (List Int)} {k : Nat} {l : List Int}, ch.length = ps.length → (h : k < ps.length) → ∀ x, wl ps (ch.set k l) x + (if x ∈ (ch[k]?).getD [] then ((ps[k]?).getD ⟨[], [], 0⟩).w else 0) = wl ps ch x + (if x ∈ l then ((ps[k]?).getD ⟨[], [], 0⟩).w else 0)
  | [], _, k, l, _, h, _ => absurd h (by simp)
  | p :: ps, [], k, l, e, _, _ => by cases e
  | p :: ps, m :: ch, 0, l, e, _, x => by
    have e1 : wl (p :: ps) (l :: ch) x = (if x ∈ l then p.w else 0) + wl ps ch x := rfl
    have e2 : wl (p :: ps) (m :: ch) x = (if x ∈ m then p.w else 0) + wl ps ch x := rfl
    rw [List.set_cons_zero, e1, e2]
    show _ + (if x ∈ m then p.w else 0) = _ + (if x ∈ l then p.w else 0)
    omega
  | p :: ps, m :: ch, k + 1, l, e, h, x => by
    have ih := wlz_set (ps := ps) (ch := ch) (k := k) (l := l) (by simpa using e) (by simpa using h) x
    have e1 : wl (p :: ps) (m :: ch.set k l) x = (if x ∈ m then p.w else 0) + wl ps (ch.set k l) x := rfl
    have e2 : wl (p :: ps) (m :: ch) x = (if x ∈ m then p.w else 0) + wl ps ch x := rfl
    rw [List.set_cons_succ, e1, e2, List.getElem?_cons_succ, List.getElem?_cons_succ]
    omega
theorem wl_with {ps : List Pl} {ch : List (List Int)} {i : Int} {l : List Int} (c : Chs ps ch) (h0 : 0 ≤ i) (h1 : i < (ps.length : Int)) (x : Int) : wl ps (withL ch i l) x + (if x ∈ ixr ch i then (plx ps i).w else 0) = wl ps ch x + (if x ∈ l then (plx ps i).w else 0) :=
  wlz_set c.len (by omega) x
/-- the price of a lot at the own prices is what is paid with it -/
theorem pay_with {n : Int} {ps : List Pl} {ch : List (List Int)} {i : Int} {l : List Int} (P : Play n ps) (c : Chs ps ch) (h0 : 0 ≤ i) (h1 : i < (ps.length : Int)) (hl : l ∈ (plx ps i).ls) : payD ps (withL ch i l) i = pr ((rangeI 0 n).map (opr ps ch i)) l := by
  have la := (P.good _ (plx_mem h0 h1)).asc l hl
  rw [pr_range la]
  unfold payD
  rw [with_at h0 (by rw [c.len]; exact h1) h0, if_pos rfl]
  refine sum_congr fun x hx => ?_
  have e := wl_with (l := l) c h0 h1 x
  rw [if_pos hx] at e
  unfold opr
  congr 1
  by_cases hy : x ∈ ixr ch i
  · rw [if_pos hy] at e ⊢; omega
  · rw [if_neg hy] at e ⊢; omega
theorem with_self {ch : List (List Int)} {i : Int} (h0 : 0 ≤ i) (h1 : i < (ch.length : Int)) : withL ch i (ixr ch i) = ch := by
  unfold withL ixr
  have hl : i.toNat < ch.length := by omega
  rw [List.getElem?_eq_getElem hl]
  exact List.set_getElem_self hl
theorem best_congr {α : Type} {f g : α → Int} {xs : List α} (h : ∀ x ∈ xs, f x = g x) : best f xs = best g xs := by
  have gen : ∀ (ys : List α) (b : α), (∀ y ∈ ys, f y = g y) → f b = g b → bestF f ys b = bestF g ys b ∧ True := by
    intro ys
    induction ys with
    | nil => intro b _ _; exact ⟨rfl, trivial⟩
    | cons y ys ih =>
      intro b hy hb
      have e := hy y List.mem_cons_self
      show bestF f ys _ = bestF g ys _ ∧ True
      rw [e, hb]
      refine ih _ (fun z hz => hy z (List.mem_cons_of_mem _ hz)) ?_
      split
      · exact e
      · exact hb
  cases xs with
  | nil => rfl
  | cons x xs =>
    show some _ = some _
    rw [(gen xs x (fun y hy => h y (List.mem_cons_of_mem _ hy)) (h x List.mem_cons_self)).1]
/-- the own prices -/
def own (n : Int) (ps : List Pl) (ch : List (List Int)) (i : Int) : List Int := (rangeI 0 n).map (opr ps ch i)
theorem own_in {n : Int} {ps : List Pl} {ch : List (List Int)} {i : Int} {l : List Int} (h : Asc n l) : ∀ x ∈ l, 0 ≤ x ∧ x < ((own n ps ch i).length : Int) := fun x hx => by
  have := h.2 x hx
  unfold own
  rw [List.length_map, rangeI_len]
  omega
theorem v_best_lot (n : Int) (ps : List Pl) (ch : List (List Int)) (i : Int) (l : List Int) (G : Game n ps) (c : Chs ps ch) (h0 : 0 ≤ i) (h1 : i < (ps.length : Int)) (hb : best (pr (own n ps ch i)) (plx ps i).ls = some l) : m_best_lot [gmD n ps, tt ch, .int i] = .ok (tu l) := by
  show endR (g_best_lot [some (.d (gmD n ps)), some (.d (tt ch)), some (.d (.int i))]) = _
  have hg := G.good _ (plx_mem h0 h1)
  have o1 : oIx (tkD n (plx ps i)) (.int 0) = .ok (ofr n (plx ps i).ls) := rfl
  have e1 : m_own_prices [gmD n ps, tt ch, .int i] = .ok (tu (own n ps ch i)) := v_own_prices n ps ch i G c h0 h1
  have e2 := v_cheapest (ofr n (plx ps i).ls) (own n ps ch i) (plx ps i).ls l (fun l hl => own_in (hg.asc l hl)) hb rfl
  simp [g_best_lot, ix_tk (n := n) h0 h1, o1, e1, e2]
theorem v_gain_for (n : Int) (ps : List Pl) (ch : List (List Int)) (i : Int) (l : List Int) (P : Play n ps) (c : Chs ps ch) (h0 : 0 ≤ i) (h1 : i < (ps.length : Int)) (hb : best (pr (own n ps ch i)) (plx ps i).ls = some l) : m_gain_for [.list (ps.map (plD n)), tt ch, .int i] = .ok (.int (payD ps ch i - pr (own n ps ch i) l)) := by
  show endR (g_gain_for [some (.d (.list (ps.map (plD n)))), some (.d (tt ch)), some (.d (.int i)), none]) = _
  have hg := P.good _ (plx_mem h0 h1)
  have o1 : oIx (plD n (plx ps i)) (.int 0) = .ok (ofr n (plx ps i).ls) := rfl
  have e1 : m_prices_for [.list (ps.map (plD n)), tt ch, .int i] = .ok (tu (own n ps ch i)) := v_prices_for n ps ch i P c h0 h1
  have e2 := v_cheapest (ofr n (plx ps i).ls) (own n ps ch i) (plx ps i).ls l (fun l hl => own_in (hg.asc l hl)) hb rfl
  have a := chs_asc P c h0 h1
  have e3 := v_price (own n ps ch i) (ixr ch i) (own_in a)
  have e4 := v_price (own n ps ch i) l (own_in (hg.asc l (best_mem hb)))
  have e5 : pr (own n ps ch i) (ixr ch i) = payD ps ch i := pay_opr a
  rw [e5] at e3
  simp [g_gain_for, ix_pl (n := n) h0 h1, o1, e1, e2, e3, e4, ix_tt (L := ch) h0 (by rw [c.len]; exact h1)]
theorem v_gain (n : Int) (ps : List Pl) (ch : List (List Int)) (i : Int) (l : List Int) (G : Game n ps) (c : Chs ps ch) (h0 : 0 ≤ i) (h1 : i < (ps.length : Int)) (hb : best (pr (own n ps ch i)) (plx ps i).ls = some l) : m_gain [gmD n ps, tt ch, .int i] = .ok (.int (payD ps ch i - pr (own n ps ch i) l)) := by
  show endR (g_gain [some (.d (gmD n ps)), some (.d (tt ch)), some (.d (.int i))]) = _
  simp [g_gain, v_players n ps G.one, v_gain_for n ps ch i l G.toPlay c h0 h1 hb]
/-- the law's own search for the best lot -/
theorem v_law_best (n : Int) (ps : List Pl) (ch : List (List Int)) (i : Int) (l : List Int) (G : Game n ps) (c : Chs ps ch) (hz : ps.length ≤ 900) (h0 : 0 ≤ i) (h1 : i < (ps.length : Int)) (hb : best (pr (own n ps ch i)) (plx ps i).ls = some l) :
    m_law_best [gmD n ps, tt ch, .int i] = .ok (.tuple [tu l, .int (pr (own n ps ch i) l)]) := by
  show endR (g_law_best [some (.d (gmD n ps)), some (.d (tt ch)), some (.d (.int i)), none, none, none, none]) = _
  have hg := G.good _ (plx_mem h0 h1)
  have hcl : i < (ch.length : Int) := by rw [c.len]; exact h1
  have pay : ∀ k ∈ (plx ps i).ls, (m_law_with [tt ch, .int i, tu k] >>= fun a => m_law_pay [gmD n ps, a, .int i]) = .ok (.int (pr (own n ps ch i) k)) := fun k hk => by
    rw [v_law_with ch i k h0 hcl (by rw [c.len]; exact hz), R.bind_ok, v_law_pay n ps _ i G (c.with h0 h1 hk) h0 h1, pay_with G.toPlay c h0 h1 hk]
    rfl
  have pw : ∀ k ∈ (plx ps i).ls, m_law_with [tt ch, .int i, tu k] = .ok (tt (withL ch i k)) := fun k _ => v_law_with ch i k h0 hcl (by rw [c.len]; exact hz)
  have pp : ∀ k ∈ (plx ps i).ls, m_law_pay [gmD n ps, tt (withL ch i k), .int i] = .ok (.int (pr (own n ps ch i) k)) := fun k hk => by
    rw [v_law_pay n ps _ i G (c.with h0 h1 hk) h0 h1, pay_with G.toPlay c h0 h1 hk]
    rfl
  have o1 : oIx (tkD n (plx ps i)) (.int 0) = .ok (ofr n (plx ps i).ls) := rfl
  have o2 : oIx (ofr n (plx ps i).ls) (.int 1) = .ok (tt (plx ps i).ls) := rfl
  generalize hK : pr (own n ps ch i) = K at hb pp
  cases hls : (plx ps i).ls with
  | nil => rw [hls] at hb; cases hb
  | cons k ks =>
    rw [hls] at hb pp pw o2
    have key := forGo_inv (i := 5) (g := b_law_best_1) (enc := tu) (fun xs ρ => ∃ (b : List Int) (o5 o6 : Option Sl), ρ = [some (.d (gmD n ps)), some (.d (tt ch)), some (.d (.int i)), some (.d (tu b)), some (.d (.int (K b))), o5, o6] ∧ (∀ x ∈ xs, x ∈ k :: ks) ∧ bestF K xs b = l) (by
      rintro x xs ρ ⟨b, o5, o6, rfl, hx, he⟩
      have hxm := hx x List.mem_cons_self
      refine ⟨[some (.d (gmD n ps)), some (.d (tt ch)), some (.d (.int i)), some (.d (tu (if K x < K b then x else b))), some (.d (.int (K (if K x < K b then x else b)))), some (.d (tu x)), some (.d (.int (K x)))], ?_, _, _, _, rfl, fun y hy => hx y (List.mem_cons_of_mem _ hy), he⟩
      by_cases q : K x < K b
      · simp [b_law_best_1, pw x hxm, pp x hxm, q]
      · simp [b_law_best_1, pw x hxm, pp x hxm, q])
    have e0 : bestF K (k :: ks) k = l := by
      cases hb
      show bestF K ks (if K k < K k then k else k) = _
      rw [if_neg (by omega)]
    obtain ⟨ρ', e, b, o5, o6, rfl, _, he⟩ := key (k :: ks) [some (.d (gmD n ps)), some (.d (tt ch)), some (.d (.int i)), some (.d (tu k)), some (.d (.int (K k))), none, none] ⟨k, none, none, rfl, fun _ h => h, e0⟩
    have he : b = l := he
    subst he
    have ei : oIx (tt (k :: ks)) (.int 0) = .ok (tu k) := oIx_tt (by decide) rfl
    rw [List.map_cons] at e
    simp [g_law_best, ix_tk (n := n) h0 h1, o1, o2, hls, ei, pw k List.mem_cons_self, pp k List.mem_cons_self, e]
end LW

set_option Elab.async false
set_option linter.all false
set_option maxRecDepth 100000
set_option maxHeartbeats 4000000
namespace LW
open PySem PySem.Spec PyProof.Rows L2 PD
def b_law_k20_1 : Sn := (gIf (dAsB (dTwo oIn (dVar 8) (dTwo oIx (dVar 2) (dVar 3)))) (gApp 7 (dTwo oIx (dTwo oIx (dVar 5) (dVar 8)) (dTwo oSub (dTwo oIx (dVar 6) (dVar 8)) (dC (.int 1))))) (gApp 7 (dTwo oIx (dTwo oIx (dVar 5) (dVar 8)) (dTwo oIx (dVar 6) (dVar 8)))))
def b_law_k20_2 : Sn := (gSeq (gSet (dTwo oAdd (dTwo oAdd (dCut (dVar 2) dNoP (dPart (dVar 3))) (dTup (dCons (dVar 10) dNil))) (dCut (dVar 2) (dPart (dTwo oAdd (dVar 3) (dC (.int 1)))) dNoP)) (.nm 11)) (gIf (dAsB (dTwo oNe (dArg m_pay (dCons (dVar 1) (dCons (dVar 11) (dCons (dVar 3) dNil)))) (dArg bSum (dCons (dLc (dItems (dVar 10)) (.nm 8) dYes (dTwo oIx (dVar 9) (dVar 8)) [8]) dNil)))) (gRet (dC (.bool false))) gSkip))
def b_law_k20_3 : Sn := (gSeq (gSet (dTwo oIx (dTwo oIx (dTwo oIx (dVar 1) (dVar 3)) (dC (.int 0))) (dC (.int 0))) (.nm 4)) (gSeq (gSet (dTwo oIx (dTwo oIx (dVar 1) (dVar 3)) (dC (.int 1))) (.nm 5)) (gSeq (gSet (dArg m_law_loads (dCons (dVar 2) (dCons (dVar 4) dNil))) (.nm 6)) (gSeq (gOwn (dLst dNil) 7) (gSeq (gFor (dRng1 (dCons (dVar 4) dNil)) (.nm 8) b_law_k20_1) (gSeq (gSet (dArg m_own_prices (dCons (dVar 1) (dCons (dVar 2) (dCons (dVar 3) dNil)))) (.nm 9)) (gFrz 7 (gSeq (gIf (dOr (dNot (dAsB (dOne (oIsi "tuple") (dVar 9)))) (dOr (dAsB (dTwo oNe (dArg bList (dCons (dVar 9) dNil)) (dVar 7))) (dNot (dAsB (dArg bAll (dCons (dLc (dItems (dVar 9)) (.nm 12) dYes (dArg m_law_is_integer (dCons (dVar 12) dNil)) [12]) dNil)))))) (gRet (dC (.bool false))) gSkip) (gFor (dItems (dTwo oIx (dTwo oIx (dTwo oIx (dVar 1) (dVar 3)) (dC (.int 0))) (dC (.int 1)))) (.nm 10) b_law_k20_2)))))))))
def g_law_k20 : Sn := (gSeq (gSet (dArg m_law_game (dCons (dVar 0) (dCons (dC (.int 0)) (dCons (dC (.bool false)) dNil)))) (.nm 1)) (gSeq (gSet (dArg m_law_choice (dCons (dArg m_law_cell (dCons (dVar 0) (dCons (dC (.int 8)) dNil))) (dCons (dVar 1) dNil))) (.nm 2)) (gSeq (gFor (dRng1 (dCons (dArg bLen (dCons (dVar 1) dNil)) dNil)) (.nm 3) b_law_k20_3) (gRet (dC (.bool true))))))
def m_law_k20 : List PyData → R PyData := runD 13 1 g_law_k20
end LW

set_option Elab.async false
set_option maxRecDepth 100000
set_option linter.all false
set_option maxHeartbeats 2000000
namespace LW
open PySem PySem.Spec PyProof.Rows L2 PD
theorem own_get {n : Int} {ps : List Pl} {ch : List (List Int)} {i x : Int} (x0 : 0 ≤ x) (x1 : x < n) : ixv (own n ps ch i) x = opr ps ch i x := by
  unfold own
  rw [ixv_map x0 (by rw [rangeI_len]; omega), ixv_range x0 x1]
theorem all_int (l : List Int) : ∃ W, lcR (fun _ => R.ok true) (fun x : Int => m_law_is_integer [.int x]) l = .ok W ∧ bAll [.list W] = .ok (.bool true) := by
  refine ⟨l.map fun _ => PyData.bool true, lcR_mem fun x _ => v_integer x, ?_⟩
  rw [bAll_map (fun _ => true)]
  simp
theorem main_k20 (ns : List Int) (hn : ns.length ≤ 63) : m_law_k20 [.list (ns.map .int)] = .ok (.bool true) := by
  show endR (g_law_k20 [some (.d (li ns)), none, none, none, none, none, none, none, none, none, none, none, none]) = _
  obtain ⟨n, ps, e1, G, hn5, hp3, _⟩ := v_law_game ns 0 false (by decide)
  obtain ⟨c8, e8⟩ := v_cell ns 8 (by decide)
  obtain ⟨ch, e2, c⟩ := v_choice c8 n ps G.toPlay (by omega)
  have n0 := G.n0
  have key := forGo_inv (i := 3) (g := b_law_k20_3) (enc := PyData.int) (fun xs ρ => ∃ (o3 o4 o5 o6 o7 o8 o9 o10 o11 : Option Sl), ρ = [some (.d (li ns)), some (.d (gmD n ps)), some (.d (tt ch)), o3, o4, o5, o6, o7, o8, o9, o10, o11, none] ∧ ∀ i ∈ xs, 0 ≤ i ∧ i < (ps.length : Int)) (by
    rintro i xs ρ ⟨o3, o4, o5, o6, o7, o8, o9, o10, o11, rfl, hx⟩
    obtain ⟨i0, i1⟩ := hx i List.mem_cons_self
    have hm := plx_mem i0 i1
    have hg := G.good _ hm
    have hcl : i < (ch.length : Int) := by rw [c.len]; exact i1
    have a := chs_asc G.toPlay c i0 i1
    have o1 : oIx (tkD n (plx ps i)) (.int 0) = .ok (ofr n (plx ps i).ls) := rfl
    have o1b : oIx (tkD n (plx ps i)) (.int 1) = .ok (tt (plx ps i).C) := rfl
    have o2 : oIx (ofr n (plx ps i).ls) (.int 0) = .ok (.int n) := rfl
    have o3' : oIx (ofr n (plx ps i).ls) (.int 1) = .ok (tt (plx ps i).ls) := rfl
    have eL := v_law_loads ch n n0 (by omega)
    have eO : m_own_prices [gmD n ps, tt ch, .int i] = .ok (tu (own n ps ch i)) := v_own_prices n ps ch i G c i0 i1
    have eC := ix_tt (L := ch) i0 hcl
    have gl : ∀ x, 0 ≤ x → x < n → oIx (li ((rangeI 0 n).map (load ch))) (.int x) = .ok (.int (wl ps ch x)) := fun x x0 x1 => by
      rw [ix_li x0 (by rw [List.length_map, rangeI_len]; omega), ixv_map x0 (by rw [rangeI_len]; omega), ixv_range x0 x1, wl_load G.one c.len]
    generalize hLd : li ((rangeI 0 n).map (load ch)) = Ld at eL gl
    have k1 := forGo_inv (i := 8) (g := b_law_k20_1) (enc := PyData.int) (fun xs ρ => ∃ (k : Int) (o8 o9 o10 o11 : Option Sl), ρ = [some (.d (li ns)), some (.d (gmD n ps)), some (.d (tt ch)), some (.d (.int i)), some (.d (.int n)), some (.d (tt (plx ps i).C)), some (.d Ld), some (.own (((rangeI 0 k).map (opr ps ch i)).map .int)), o8, o9, o10, o11, none] ∧ xs = rangeI k n ∧ 0 ≤ k ∧ k ≤ n) (by
      rintro x xs ρ ⟨k, o8, o9, o10, o11, rfl, hx, k0, k1⟩
      obtain ⟨hk1, rfl, rfl⟩ := rangeI_inv hx
      have see := wl_see G.toPlay c i0 i1 x
      have hr := G.rows _ hm
      have rl := G.room _ hm (ixr (plx ps i).C x) (ixr_mem k0 (by omega))
      have w1 := G.one _ hm
      have hs : (((rangeI 0 x).map (opr ps ch i)).map PyData.int).length < sizeLine := line_lt (by rw [List.length_map, List.length_map, rangeI_len]; omega)
      have es : ((rangeI 0 x).map (opr ps ch i)).map PyData.int ++ [.int (opr ps ch i x)] = ((rangeI 0 (x + 1)).map (opr ps ch i)).map PyData.int := by
        have : rangeI 0 (x + 1) = rangeI 0 x ++ [x] := by
          unfold rangeI
          rw [show (x + 1 - 0).toNat = (x - 0).toNat + 1 by omega, List.range_succ, List.map_append, List.map_cons, List.map_nil]
          congr 2
          omega
        rw [this]
        simp
      refine ⟨[some (.d (li ns)), some (.d (gmD n ps)), some (.d (tt ch)), some (.d (.int i)), some (.d (.int n)), some (.d (tt (plx ps i).C)), some (.d Ld), some (.own (((rangeI 0 (x + 1)).map (opr ps ch i)).map .int)), some (.d (.int x)), o9, o10, o11, none], ?_, x + 1, _, _, _, _, rfl, rfl, by omega, by omega⟩
      rw [← es]
      have eR := ix_tt (L := (plx ps i).C) (i := x) k0 (by omega)
      by_cases hy : x ∈ ixr ch i
      · rw [if_pos hy, Int.add_zero] at see
        have ev : opr ps ch i x = ixv (ixr (plx ps i).C x) (wl ps ch x - 1) := by unfold opr cost; rw [if_pos hy, Int.add_zero]
        rw [ev]
        simp [b_law_k20_1, eC, hy, eR, gl x k0 hk1, ix_tu (L := ixr (plx ps i).C x) (i := wl ps ch x - 1) (by omega) (by omega), hs, -List.map_map, -List.length_map]
      · rw [if_neg hy, w1] at see
        have ev : opr ps ch i x = ixv (ixr (plx ps i).C x) (wl ps ch x) := by
          unfold opr cost
          rw [if_neg hy, w1, show wl ps ch x + 1 - 1 = wl ps ch x by omega]
        rw [ev]
        simp [b_law_k20_1, eC, hy, eR, gl x k0 hk1, ix_tu (L := ixr (plx ps i).C x) (i := wl ps ch x) (by omega) (by omega), hs, -List.map_map, -List.length_map])
    obtain ⟨ρ1, f1, k, p8, p9, p10, p11, rfl, hk, k0, kn⟩ := k1 (rangeI 0 n) [some (.d (li ns)), some (.d (gmD n ps)), some (.d (tt ch)), some (.d (.int i)), some (.d (.int n)), some (.d (tt (plx ps i).C)), some (.d Ld), some (.own []), o8, o9, o10, o11, none] ⟨0, o8, o9, o10, o11, rfl, rfl, by omega, n0⟩
    have ek : k = n := by
      by_cases h : k < n
      · rw [rangeI_cons h] at hk; cases hk
      · omega
    subst ek
    have eown : ((rangeI 0 k).map (opr ps ch i)).map PyData.int = (own k ps ch i).map PyData.int := rfl
    rw [eown] at f1
    obtain ⟨W, ei, ea⟩ := all_int (own k ps ch i)
    have k2 := forGo_inv (i := 10) (g := b_law_k20_2) (enc := tu) (fun xs ρ => ∃ (o8 o10 o11 : Option Sl), ρ = [some (.d (li ns)), some (.d (gmD k ps)), some (.d (tt ch)), some (.d (.int i)), some (.d (.int k)), some (.d (tt (plx ps i).C)), some (.d Ld), some (.d (li (own k ps ch i))), o8, some (.d (tu (own k ps ch i))), o10, o11, none] ∧ ∀ l ∈ xs, l ∈ (plx ps i).ls) (by
      rintro l xs ρ ⟨o8, o10, o11, rfl, hl⟩
      have hlm := hl l List.mem_cons_self
      refine ⟨[some (.d (li ns)), some (.d (gmD k ps)), some (.d (tt ch)), some (.d (.int i)), some (.d (.int k)), some (.d (tt (plx ps i).C)), some (.d Ld), some (.d (li (own k ps ch i))), o8, some (.d (tu (own k ps ch i))), some (.d (tu l)), some (.d (tt (withL ch i l))), none], ?_, _, _, _, rfl, fun y hy => hl y (List.mem_cons_of_mem _ hy)⟩
      have a1 : oAdd (tt (ch.take i.toNat)) (tt [l]) = .ok (tt (ch.take i.toNat ++ [l])) := oAdd_tt (by have := c.len; rw [List.length_take, List.length_singleton]; omega)
      have a2 : oAdd (tt (ch.take i.toNat ++ [l])) (tt (ch.drop (i.toNat + 1))) = .ok (tt (withL ch i l)) := by
        rw [oAdd_tt (by have := c.len; rw [List.length_append, List.length_take, List.length_singleton, List.length_drop]; omega), with_eq i0 hcl]
      have ep := v_pay k ps (withL ch i l) i G (c.with i0 i1 hlm) i0 i1
      rw [pay_with G.toPlay c i0 i1 hlm] at ep
      have ep : m_pay [gmD k ps, tt (withL ch i l), .int i] = .ok (.int (pr (own k ps ch i) l)) := ep
      have el := lc_prices (own k ps ch i) l (own_in (hg.asc l hlm))
      simp [b_law_k20_2, cut_to' i0 hcl, cut_from' i0 hcl, tt_1, a1, a2, ep, el, pr])
    obtain ⟨ρ2, f2, q8, q10, q11, rfl, _⟩ := k2 (plx ps i).ls [some (.d (li ns)), some (.d (gmD k ps)), some (.d (tt ch)), some (.d (.int i)), some (.d (.int k)), some (.d (tt (plx ps i).C)), some (.d Ld), some (.d (li (own k ps ch i))), p8, some (.d (tu (own k ps ch i))), p10, p11, none] ⟨_, _, _, rfl, fun _ h => h⟩
    refine ⟨[some (.d (li ns)), some (.d (gmD k ps)), some (.d (tt ch)), some (.d (.int i)), some (.d (.int k)), some (.d (tt (plx ps i).C)), some (.d Ld), some (.d (li (own k ps ch i))), q8, some (.d (tu (own k ps ch i))), q10, q11, none], ?_, _, _, _, _, _, _, _, _, _, rfl, fun y hy => hx y (List.mem_cons_of_mem _ hy)⟩
    simp [b_law_k20_3, ix_tk (n := k) i0 i1, o1, o1b, o2, o3', eL, rngA1_ok (n := k) (by omega) (by omega), f1, eO, isi_tu, ei, ea, f2])
  obtain ⟨ρ', e, o3, o4, o5, o6, o7, o8, o9, o10, o11, rfl, _⟩ := key (rangeI 0 ps.length) [some (.d (li ns)), some (.d (gmD n ps)), some (.d (tt ch)), none, none, none, none, none, none, none, none, none, none] ⟨none, none, none, none, none, none, none, none, none, rfl, fun i hi => mem_rangeI.mp hi⟩
  simp [g_law_k20, e1, e8, e2, len_gm, rngA1_ok (n := ps.length) (by omega) (by omega), e]
end LW

set_option Elab.async false
set_option maxRecDepth 100000
set_option linter.all false
set_option maxHeartbeats 2000000
namespace LW
open PySem PySem.Spec PyProof.Rows L2 PD
theorem main_k21 (ns : List Int) (hn : ns.length ≤ 63) : m_law_k21 [.list (ns.map .int)] = .ok (.bool true) := by
  show endR (g_law_k21 [some (.d (li ns)), none, none, none, none, none, none]) = _
  obtain ⟨n, ps, e1, G, hn5, hp3, _⟩ := v_law_game ns 0 false (by decide)
  obtain ⟨c8, e8⟩ := v_cell ns 8 (by decide)
  obtain ⟨ch, e2, c⟩ := v_choice c8 n ps G.toPlay (by omega)
  have n0 := G.n0
  have key := forGo_inv (i := 3) (g := b_law_k21_1) (enc := PyData.int) (fun xs ρ => ∃ (o3 o4 o5 o6 : Option Sl), ρ = [some (.d (li ns)), some (.d (gmD n ps)), some (.d (tt ch)), o3, o4, o5, o6] ∧ ∀ i ∈ xs, 0 ≤ i ∧ i < (ps.length : Int)) (by
    rintro i xs ρ ⟨o3, o4, o5, o6, rfl, hx⟩
    obtain ⟨i0, i1⟩ := hx i List.mem_cons_self
    have hg := G.good _ (plx_mem i0 i1)
    obtain ⟨l, hb⟩ := best_some (key := pr (own n ps ch i)) hg.ne
    have la := hg.asc l (best_mem hb)
    have o1 : oIx (tkD n (plx ps i)) (.int 0) = .ok (ofr n (plx ps i).ls) := rfl
    have o2 : oIx (ofr n (plx ps i).ls) (.int 0) = .ok (.int n) := rfl
    have le : pr (own n ps ch i) l ≤ payD ps ch i := by
      have := best_le hb (c.mem i i0 i1)
      rwa [show pr (own n ps ch i) (ixr ch i) = payD ps ch i from pay_opr (chs_asc G.toPlay c i0 i1)] at this
    refine ⟨[some (.d (li ns)), some (.d (gmD n ps)), some (.d (tt ch)), some (.d (.int i)), some (.d (.tuple [tu l, .int (pr (own n ps ch i) l)])), some (.d (tu l)), some (.d (.int (payD ps ch i - pr (own n ps ch i) l)))], ?_, _, _, _, _, rfl, fun y hy => hx y (List.mem_cons_of_mem _ hy)⟩
    have nl : ¬ payD ps ch i - pr (own n ps ch i) l < 0 := by omega
    simp [b_law_k21_1, v_law_best n ps ch i l G c (by omega) i0 i1 hb, v_best_lot n ps ch i l G c i0 i1 hb, ix_tk (n := n) i0 i1, o1, o2, v_is_set l n la (by have := la.len; omega), v_gain n ps ch i l G c i0 i1 hb, v_integer, v_law_pay n ps ch i G c i0 i1, nl])
  obtain ⟨ρ', e, o3, o4, o5, o6, rfl, _⟩ := key (rangeI 0 ps.length) [some (.d (li ns)), some (.d (gmD n ps)), some (.d (tt ch)), none, none, none, none] ⟨none, none, none, none, rfl, fun i hi => mem_rangeI.mp hi⟩
  simp [g_law_k21, e1, e8, e2, len_gm, rngA1_ok (n := ps.length) (by omega) (by omega), e]
end LW

set_option Elab.async false
set_option maxRecDepth 100000
set_option linter.all false
set_option maxHeartbeats 2000000
namespace LW
open PySem PySem.Spec PyProof.Rows L2 PD

/-! ### the first gain -/
def gainO (n : Int) (ps : List Pl) (ch : List (List Int)) (i : Int) : Option (Int × List Int) := (best (pr (own n ps ch i)) (plx ps i).ls).bind fun l => if pr (own n ps ch i) l < payD ps ch i then some (i, l) else none
def firstG (n : Int) (ps : List Pl) (ch : List (List Int)) : Option (Int × List Int) := (rangeI 0 ps.length).findSome? (gainO n ps ch)
def fgD : Option (Int × List Int) → PyData
  | none => .none
  | some p => .tuple [.int p.1, tu p.2]
theorem idx_plx (ps : List Pl) : idx 0 ps = (rangeI 0 ps.length).map fun i => (i, plx ps i) := by
  have gen : ∀ (k : Nat) (qs : List Pl), ps.drop k = qs → idx (k : Int) qs = (rangeI k ps.length).map fun i => (i, plx ps i) := by
    intro k qs
    induction qs generalizing k with
    | nil =>
      intro e
      have hl : ps.length ≤ k := List.drop_eq_nil_iff.mp e
      rw [rangeI_nil (by omega)]
      rfl
    | cons q qs ih =>
      intro e
      have hl : k < ps.length := by
        refine Classical.byContradiction fun z => ?_
        rw [List.drop_eq_nil_iff.mpr (by omega)] at e
        cases e
      rw [List.drop_eq_getElem_cons hl] at e
      injection e with e1 e2
      rw [rangeI_cons (by omega), List.map_cons, idx]
      have := ih (k + 1) e2
      rw [show ((k + 1 : Nat) : Int) = (k : Int) + 1 by omega] at this
      rw [this]
      congr 2
      unfold plx
      rw [show ((k : Int)).toNat = k by omega, List.getElem?_eq_getElem hl, e1]
      rfl
  exact gen 0 ps (by simp)
theorem findSome_map {α β γ : Type} (f : α → β) (g : β → Option γ) : ∀ xs : List α, (xs.map f).findSome? g = xs.findSome? fun x => g (f x)
  | [] => rfl
  | x :: xs => by
    rw [List.map_cons, List.findSome?_cons, List.findSome?_cons, findSome_map f g xs]
theorem findSome_opt {α β γ : Type} (f : α → Option β) (g : β → γ) : ∀ xs : List α, (xs.findSome? fun x => (f x).map g) = (xs.findSome? f).map g
  | [] => rfl
  | x :: xs => by
    rw [List.findSome?_cons, List.findSome?_cons]
    cases f x with
    | none => exact findSome_opt f g xs
    | some y => rfl
theorem v_first_gain_for (n : Int) (ps : List Pl) (ch : List (List Int)) (P : Play n ps) (c : Chs ps ch) : m_first_gain_for [.list (ps.map (plD n)), tt ch] = .ok (fgD (firstG n ps ch)) := by
  show endR (g_first_gain_for [some (.d (.list (ps.map (plD n)))), some (.d (tt ch)), none, none, none, none]) = _
  generalize hPd : PyData.list (ps.map (plD n)) = Pd
  have ei : items Pd = .ok (ps.map (plD n)) := by rw [← hPd]; rfl
  have key := forGo_findT (t := .tp [.nm 2, .nm 3]) (g := b_first_gain_for_1) (enc := fun i : Int => encI (plD n) (i, plx ps i)) (fun ρ => ∃ (o2 o3 o4 o5 : Option Sl), ρ = [some (.d Pd), some (.d (tt ch)), o2, o3, o4, o5]) (fun i => (gainO n ps ch i).map fun p => PyData.tuple [.int p.1, tu p.2]) (xs := rangeI 0 ps.length) (by
    rintro i hi ρ ⟨o2, o3, o4, o5, rfl⟩
    obtain ⟨i0, i1⟩ := mem_rangeI.mp hi
    have hg := P.good _ (plx_mem i0 i1)
    obtain ⟨l, hb⟩ := best_some (key := pr (own n ps ch i)) hg.ne
    refine ⟨[some (.d Pd), some (.d (tt ch)), some (.d (.int i)), some (.d (plD n (plx ps i))), o4, o5], by simp [encI], ?_⟩
    have o1 : oIx (plD n (plx ps i)) (.int 0) = .ok (ofr n (plx ps i).ls) := rfl
    have e1 : m_prices_for [Pd, tt ch, .int i] = .ok (tu (own n ps ch i)) := by rw [← hPd]; exact v_prices_for n ps ch i P c i0 i1
    have e2 := v_cheapest (ofr n (plx ps i).ls) (own n ps ch i) (plx ps i).ls l (fun l hl => own_in (hg.asc l hl)) hb rfl
    have a := chs_asc P c i0 i1
    have e3 := v_price (own n ps ch i) (ixr ch i) (own_in a)
    have e4 := v_price (own n ps ch i) l (own_in (hg.asc l (best_mem hb)))
    rw [show pr (own n ps ch i) (ixr ch i) = payD ps ch i from pay_opr a] at e3
    have ec := ix_tt (L := ch) i0 (by rw [c.len]; exact i1)
    unfold gainO
    rw [hb]
    by_cases q : pr (own n ps ch i) l < payD ps ch i
    · simp [q, b_first_gain_for_1, o1, e1, e2, e3, e4, ec]
    · simp [q, b_first_gain_for_1, o1, e1, e2, e3, e4, ec])
  have r := key [some (.d Pd), some (.d (tt ch)), none, none, none, none] ⟨none, none, none, none, rfl⟩
  have em : (rangeI 0 ps.length).map (fun i : Int => encI (plD n) (i, plx ps i)) = enumF 0 (ps.map (plD n)) := by
    rw [enumF_map, idx_plx, List.map_map]
    rfl
  rw [em, findSome_opt (gainO n ps ch)] at r
  unfold firstG
  cases e : (rangeI 0 ps.length).findSome? (gainO n ps ch) with
  | some p =>
    rw [e] at r
    have r : forGo (.tp [.nm 2, .nm 3]) b_first_gain_for_1 (enumF 0 (ps.map (plD n))) [some (.d Pd), some (.d (tt ch)), none, none, none, none] = .rt (PyData.tuple [.int p.1, tu p.2]) := r
    simp [g_first_gain_for, ei, r, fgD]
  | none =>
    rw [e] at r
    obtain ⟨ρ', r, o2, o3, o4, o5, rfl⟩ := r
    simp [g_first_gain_for, ei, r, fgD]
theorem v_first_gain (n : Int) (ps : List Pl) (ch : List (List Int)) (G : Game n ps) (c : Chs ps ch) : m_first_gain [gmD n ps, tt ch] = .ok (fgD (firstG n ps ch)) := by
  show endR (g_first_gain [some (.d (gmD n ps)), some (.d (tt ch))]) = _
  simp [g_first_gain, v_players n ps G.one, v_first_gain_for n ps ch G.toPlay c]
theorem v_is_rest (n : Int) (ps : List Pl) (ch : List (List Int)) (G : Game n ps) (c : Chs ps ch) : m_is_rest [gmD n ps, tt ch] = .ok (.bool (firstG n ps ch).isNone) := by
  show endR (g_is_rest [some (.d (gmD n ps)), some (.d (tt ch))]) = _
  simp [g_is_rest, v_first_gain n ps ch G c]
  cases firstG n ps ch <;> rfl
theorem v_law_first_gain (n : Int) (ps : List Pl) (ch : List (List Int)) (G : Game n ps) (c : Chs ps ch) (hz : ps.length ≤ 900) : m_law_first_gain [gmD n ps, tt ch] = .ok (fgD (firstG n ps ch)) := by
  show endR (g_law_first_gain [some (.d (gmD n ps)), some (.d (tt ch)), none, none]) = _
  have key := forGo_find (i := 2) (g := b_law_first_gain_1) (enc := PyData.int) (fun ρ => ∃ (o2 o3 : Option Sl), ρ = [some (.d (gmD n ps)), some (.d (tt ch)), o2, o3]) (fun i => (gainO n ps ch i).map fun p => PyData.tuple [.int p.1, tu p.2]) (xs := rangeI 0 ps.length) (by
    rintro i hi ρ ⟨o2, o3, rfl⟩
    obtain ⟨i0, i1⟩ := mem_rangeI.mp hi
    obtain ⟨l, hb⟩ := best_some (key := pr (own n ps ch i)) (G.good _ (plx_mem i0 i1)).ne
    have e1 := v_law_best n ps ch i l G c hz i0 i1 hb
    have e2 := v_law_pay n ps ch i G c i0 i1
    unfold gainO
    rw [hb]
    by_cases q : pr (own n ps ch i) l < payD ps ch i
    · simp [q, b_law_first_gain_1, e1, e2]
    · simp [q, b_law_first_gain_1, e1, e2])
  have r := key [some (.d (gmD n ps)), some (.d (tt ch)), none, none] ⟨none, none, rfl⟩
  rw [findSome_opt (gainO n ps ch)] at r
  unfold firstG
  cases e : (rangeI 0 ps.length).findSome? (gainO n ps ch) with
  | some p =>
    rw [e] at r
    have r : forGo (.nm 2) b_law_first_gain_1 ((rangeI 0 ps.length).map PyData.int) [some (.d (gmD n ps)), some (.d (tt ch)), none, none] = .rt (PyData.tuple [.int p.1, tu p.2]) := r
    simp [g_law_first_gain, len_gm, rngA1_ok (n := ps.length) (by omega) (by omega), r, fgD]
  | none =>
    rw [e] at r
    obtain ⟨ρ', r, o2, o3, rfl⟩ := r
    simp [g_law_first_gain, len_gm, rngA1_ok (n := ps.length) (by omega) (by omega), r, fgD]
theorem firstG_is {n : Int} {ps : List Pl} {ch : List (List Int)} {i : Int} {l : List Int} (h : firstG n ps ch = some (i, l)) : 0 ≤ i ∧ i < (ps.length : Int) ∧ l ∈ (plx ps i).ls ∧ pr (own n ps ch i) l < payD ps ch i := by
  obtain ⟨j, hj, e⟩ := List.exists_of_findSome?_eq_some h
  obtain ⟨j0, j1⟩ := mem_rangeI.mp hj
  unfold gainO at e
  cases hb : best (pr (own n ps ch j)) (plx ps j).ls with
  | none => rw [hb] at e; cases e
  | some m =>
    rw [hb] at e
    have e : (if pr (own n ps ch j) m < payD ps ch j then some (j, m) else none) = some (i, l) := e
    split at e
    · rename_i q
      cases e
      exact ⟨j0, j1, best_mem hb, q⟩
    · cases e
theorem firstG_none {n : Int} {ps : List Pl} {ch : List (List Int)} (P : Play n ps) (c : Chs ps ch) (h : firstG n ps ch = none) {i : Int} (h0 : 0 ≤ i) (h1 : i < (ps.length : Int)) {l : List Int} (hl : l ∈ (plx ps i).ls) : payD ps ch i ≤ pr (own n ps ch i) l := by
  have e := List.findSome?_eq_none_iff.mp h i (mem_rangeI.mpr ⟨h0, h1⟩)
  unfold gainO at e
  obtain ⟨m, hb⟩ := best_some (key := pr (own n ps ch i)) (P.good _ (plx_mem h0 h1)).ne
  rw [hb] at e
  have e : (if pr (own n ps ch i) m < payD ps ch i then some (i, m) else none) = none := e
  split at e
  · cases e
  · have := best_le hb hl
    omega
theorem shp_fg (o : Option (Int × List Int)) : shp (fgD o) = true := by
  cases o with
  | none => exact shp_of (n := 0) ⟨rfl, Nat.le_refl _⟩
  | some p => exact shp_of (n := 2) (dep_tuple fun y hy => by
      simp only [List.mem_cons, List.not_mem_nil, or_false] at hy
      rcases hy with rfl | rfl
      · exact ⟨rfl, Nat.zero_le _⟩
      · exact dep_tu _)
theorem v_tells22 (n : Int) (ps : List Pl) (ch : List (List Int)) (G : Game n ps) (c : Chs ps ch) (hz : ps.length ≤ 900) : m_law_tells_k22 [gmD n ps, tt ch] = .ok (.bool true) := by
  show endR (g_law_tells_k22 [some (.d (gmD n ps)), some (.d (tt ch)), none, none, none]) = _
  have e1 := v_law_first_gain n ps ch G c hz
  have e2 := v_first_gain n ps ch G c
  have e3 := v_is_rest n ps ch G c
  have e4 := oNe_self (shp_fg (firstG n ps ch))
  cases hf : firstG n ps ch with
  | none =>
    rw [hf] at e1 e2 e3
    have i1 : isNone (fgD none) = true := rfl
    simp [g_law_tells_k22, e1, e2, e3, isi_bool_b, i1]
  | some p =>
    obtain ⟨i, l⟩ := p
    rw [hf] at e1 e2 e3 e4
    obtain ⟨i0, i1, hl, _⟩ := firstG_is hf
    have la := (G.good _ (plx_mem i0 i1)).asc l hl
    have n1 : isNone (fgD (some (i, l))) = false := rfl
    have t1 : oIsi "tuple" (fgD (some (i, l))) = .ok (.bool true) := isi_tuple _
    have x0 : oIx (fgD (some (i, l))) (.int 0) = .ok (.int i) := rfl
    have x1 : oIx (fgD (some (i, l))) (.int 1) = .ok (tu l) := rfl
    have o1 : oIx (tkD n (plx ps i)) (.int 0) = .ok (ofr n (plx ps i).ls) := rfl
    have o2 : oIx (ofr n (plx ps i).ls) (.int 0) = .ok (.int n) := rfl
    simp [g_law_tells_k22, e1, e2, e3, e4, isi_bool_b, n1, t1, x0, x1, v_integer, ix_tk (n := n) i0 i1, o1, o2, v_is_set l n la (by have := la.len; have := G.n1; omega)]
theorem main_k22 (ns : List Int) (hn : ns.length ≤ 63) : m_law_k22 [.list (ns.map .int)] = .ok (.bool true) := by
  show endR (g_law_k22 [some (.d (li ns)), none, none, none, none, none, none]) = _
  obtain ⟨n, ps, e1, G, hn5, hp3, _⟩ := v_law_game ns 0 false (by decide)
  obtain ⟨c8, e8⟩ := v_cell ns 8 (by decide)
  obtain ⟨c9, e9⟩ := v_cell ns 9 (by decide)
  obtain ⟨ch, e2, c⟩ := v_choice c8 n ps G.toPlay (by omega)
  obtain ⟨ch2, e3, d⟩ := v_choice c9 n ps G.toPlay (by omega)
  have e4 := v_law_first_gain n ps ch G c (by omega)
  have third : ∃ ch3, Chs ps ch3 ∧ ∀ (k : Sn), seqO (gIf (dAsB (dOne (fun d => .ok (.bool (!isNone d))) (dVar 5))) (gSet (dArg m_law_with (dCons (dVar 2) (dCons (dTwo oIx (dVar 5) (dC (.int 0))) (dCons (dTwo oIx (dVar 5) (dC (.int 1))) dNil)))) (.nm 4)) gSkip [some (.d (li ns)), some (.d (gmD n ps)), some (.d (tt ch)), some (.d (tt ch2)), some (.d (tt ch)), some (.d (fgD (firstG n ps ch))), none]) k = k [some (.d (li ns)), some (.d (gmD n ps)), some (.d (tt ch)), some (.d (tt ch2)), some (.d (tt ch3)), some (.d (fgD (firstG n ps ch))), none] := by
    cases hf : firstG n ps ch with
    | none =>
      have i1 : isNone (fgD none) = true := rfl
      exact ⟨ch, c, fun k => by simp [i1]⟩
    | some p =>
      obtain ⟨i, l⟩ := p
      obtain ⟨i0, i1, hl, _⟩ := firstG_is hf
      have n1 : isNone (fgD (some (i, l))) = false := rfl
      have x0 : oIx (fgD (some (i, l))) (.int 0) = .ok (.int i) := rfl
      have x1 : oIx (fgD (some (i, l))) (.int 1) = .ok (tu l) := rfl
      exact ⟨withL ch i l, c.with i0 i1 hl, fun k => by simp [n1, x0, x1, v_law_with ch i l i0 (by rw [c.len]; exact i1) (by rw [c.len]; omega)]⟩
  obtain ⟨ch3, d3, e5⟩ := third
  have key := forGo_inv (i := 6) (g := b_law_k22_1) (enc := tt) (fun xs ρ => ∃ (o6 : Option Sl), ρ = [some (.d (li ns)), some (.d (gmD n ps)), some (.d (tt ch)), some (.d (tt ch2)), some (.d (tt ch3)), some (.d (fgD (firstG n ps ch))), o6] ∧ ∀ x ∈ xs, Chs ps x) (by
    rintro x xs ρ ⟨o6, rfl, hx⟩
    refine ⟨[some (.d (li ns)), some (.d (gmD n ps)), some (.d (tt ch)), some (.d (tt ch2)), some (.d (tt ch3)), some (.d (fgD (firstG n ps ch))), some (.d (tt x))], ?_, _, rfl, fun y hy => hx y (List.mem_cons_of_mem _ hy)⟩
    simp [b_law_k22_1, v_tells22 n ps x G (hx x List.mem_cons_self) (by omega)])
  obtain ⟨ρ', e, o6, rfl, _⟩ := key [ch, ch2, ch3, ch] [some (.d (li ns)), some (.d (gmD n ps)), some (.d (tt ch)), some (.d (tt ch2)), some (.d (tt ch3)), some (.d (fgD (firstG n ps ch))), none] ⟨none, rfl, fun x hx => by
    simp only [List.mem_cons, List.not_mem_nil, or_false] at hx
    rcases hx with rfl | rfl | rfl | rfl
    · exact c
    · exact d
    · exact d3
    · exact c⟩
  have e : forGo (.nm 6) b_law_k22_1 [tt ch, tt ch2, tt ch3, tt ch] _ = _ := e
  unfold g_law_k22
  simp [e1, e8, e9, e2, e3, e4, -ev_ifs]
  rw [e5]
  have l4 : lstR [tt ch, tt ch2, tt ch3, tt ch] = .ok (.list [tt ch, tt ch2, tt ch3, tt ch]) := lstR_ok (by show 4 ≤ 100000; decide)
  simp [l4, e]
end LW

set_option Elab.async false
set_option maxRecDepth 100000
set_option linter.all false
set_option maxHeartbeats 2000000
namespace LW
open PySem PySem.Spec PyProof.Rows L2 PD

/-! ### all the choices -/
def addC (cs : List (List (List Int))) (ls : List (List Int)) : List (List (List Int)) := cs.flatMap fun c => ls.map fun l => c ++ [l]
def foldC (ps : List Pl) (cs : List (List (List Int))) : List (List (List Int)) := ps.foldl (fun cs p => addC cs p.ls) cs
def allC (ps : List Pl) : List (List (List Int)) := foldC ps [[]]
def lch (cs : List (List (List Int))) : PyData := .list (cs.map tt)
theorem addC_len (cs : List (List (List Int))) (ls : List (List Int)) : (addC cs ls).length = cs.length * ls.length := by
  unfold addC
  induction cs with
  | nil => simp
  | cons c cs ih => rw [List.flatMap_cons, List.length_append, ih, List.length_map, List.length_cons, Nat.add_mul, Nat.one_mul, Nat.add_comm]
theorem addC_nil (ls : List (List Int)) : addC [] ls = [] := rfl
theorem addC_app (as bs : List (List (List Int))) (ls : List (List Int)) : addC (as ++ bs) ls = addC as ls ++ addC bs ls := by
  unfold addC; rw [List.flatMap_append]
theorem addC_1 (c : List (List Int)) (ls : List (List Int)) : addC [c] ls = ls.map fun l => c ++ [l] := by
  unfold addC; simp
theorem chs_snoc {ps : List Pl} {c : List (List Int)} {p : Pl} {l : List Int} (h : Chs ps c) (hl : l ∈ p.ls) : Chs (ps ++ [p]) (c ++ [l]) := by
  refine ⟨by rw [List.length_append, List.length_append, h.len]; rfl, fun i h0 h1 => ?_⟩
  rw [List.length_append, List.length_singleton] at h1
  by_cases hi : i < (ps.length : Int)
  · have e1 : ixr (c ++ [l]) i = ixr c i := by
      unfold ixr; rw [List.getElem?_append_left (by rw [h.len]; omega)]
    have e2 : plx (ps ++ [p]) i = plx ps i := by
      unfold plx; rw [List.getElem?_append_left (by omega)]
    rw [e1, e2]; exact h.mem i h0 hi
  · have ei : i.toNat = ps.length := by omega
    have e1 : ixr (c ++ [l]) i = l := by
      unfold ixr; rw [ei, ← h.len, List.getElem?_append_right (Nat.le_refl _), Nat.sub_self]; rfl
    have e2 : plx (ps ++ [p]) i = p := by
      unfold plx; rw [ei, List.getElem?_append_right (Nat.le_refl _), Nat.sub_self]; rfl
    rw [e1, e2]; exact hl
theorem foldC_chs : ∀ (qs ps : List Pl) (cs : List (List (List Int))), (∀ c ∈ cs, Chs ps c) → ∀ c ∈ foldC qs cs, Chs (ps ++ qs) c
  | [], ps, cs, h, c, hc => by rw [List.append_nil]; exact h c hc
  | q :: qs, ps, cs, h, c, hc => by
    have := foldC_chs qs (ps ++ [q]) (addC cs q.ls) (fun d hd => by
      obtain ⟨e, he, hd⟩ := List.mem_flatMap.mp hd
      obtain ⟨l, hl, rfl⟩ := List.mem_map.mp hd
      exact chs_snoc (h e he) hl) c hc
    rwa [List.append_assoc] at this
theorem allC_chs {ps : List Pl} {c : List (List Int)} (h : c ∈ allC ps) : Chs ps c := by
  have := foldC_chs ps [] [[]] (fun c hc => by
    rw [List.mem_singleton.mp hc]
    exact ⟨rfl, fun i h0 h1 => by simp at h1; omega⟩) c h
  simpa using this
theorem foldC_len (b : Nat) : ∀ (qs : List Pl) (cs : List (List (List Int))), (∀ q ∈ qs, q.ls.length ≤ b) → (foldC qs cs).length ≤ cs.length * b ^ qs.length
  | [], cs, _ => by simp [foldC]
  | q :: qs, cs, h => by
    have := foldC_len b qs (addC cs q.ls) fun y hy => h y (List.mem_cons_of_mem _ hy)
    refine Nat.le_trans this ?_
    rw [addC_len, List.length_cons, Nat.pow_succ, Nat.mul_comm (b ^ qs.length) b, ← Nat.mul_assoc]
    exact Nat.mul_le_mul_right _ (Nat.mul_le_mul_left _ (h q List.mem_cons_self))
theorem nodup_len {α : Type} [DecidableEq α] : ∀ {xs ys : List α}, xs.Nodup → (∀ x ∈ xs, x ∈ ys) → xs.length ≤ ys.length
  | [], ys, _, _ => Nat.zero_le _
  | x :: xs, ys, hn, h => by
    obtain ⟨h1, h2⟩ := List.nodup_cons.mp hn
    have hx := h x List.mem_cons_self
    have := nodup_len (xs := xs) (ys := ys.erase x) h2 fun y hy => (List.mem_erase_of_ne (by rintro rfl; exact h1 hy)).mpr (h y (List.mem_cons_of_mem _ hy))
    rw [List.length_erase_of_mem hx] at this
    have := List.length_pos_of_mem hx
    rw [List.length_cons]
    omega
theorem good_len {n : Int} {ls : List (List Int)} (h0 : 0 ≤ n) (h1 : n ≤ 5) (g : Good n ls) : ls.length ≤ 32 := by
  obtain ⟨rows, _, hr, hl, _⟩ := v_parts2 n h0 (by omega)
  have := nodup_len (ys := rows) g.asd.nodup fun l hl => (hr l).mpr (g.asc l hl)
  have hp : 2 ^ n.toNat ≤ 2 ^ 5 := Nat.pow_le_pow_right (by decide) (by omega)
  omega
/-! ### small games -/
def smP (ps : List Pl) (p : Pl) : Pl := if 2 < ps.length then { p with ls := p.ls.take 4 } else p
def smG (ps : List Pl) : List Pl := ps.map (smP ps)
theorem smP_w (ps : List Pl) (p : Pl) : (smP ps p).w = p.w := by unfold smP; split <;> rfl
theorem smP_C (ps : List Pl) (p : Pl) : (smP ps p).C = p.C := by unfold smP; split <;> rfl
theorem smP_good {n : Int} (ps : List Pl) {p : Pl} (g : Good n p.ls) : Good n (smP ps p).ls := by
  unfold smP
  split
  · refine ⟨fun l hl => g.asc l (List.mem_of_mem_take hl), g.asd.sublist (List.take_sublist _ _), fun e => ?_, ?_⟩
    · have : p.ls.length ≠ 0 := fun z => g.ne (List.length_eq_zero_iff.mp z)
      have e2 : (p.ls.take 4).length = 0 := by rw [show p.ls.take 4 = [] from e]; rfl
      rw [List.length_take] at e2
      omega
    · exact Nat.le_trans (List.take_sublist 4 p.ls).length_le g.len
  · exact g
theorem smG_game {n : Int} {ps : List Pl} (G : Game n ps) : Game n (smG ps) := by
  have hw : ((smG ps).map fun p => p.w) = ps.map fun p => p.w := by
    unfold smG
    rw [List.map_map]
    exact List.map_congr_left fun p _ => smP_w ps p
  have hm : ∀ {q}, q ∈ smG ps → ∃ p ∈ ps, q = smP ps p := fun {q} hq => by
    obtain ⟨p, hp, rfl⟩ := List.mem_map.mp hq
    exact ⟨p, hp, rfl⟩
  refine ⟨⟨G.n0, G.n1, fun q hq => ?_, fun q hq => ?_, fun q hq r hr => ?_, fun q hq => ?_⟩, fun q hq => ?_, fun q hq r hr => ?_⟩
  · obtain ⟨p, hp, rfl⟩ := hm hq; exact smP_good ps (G.good p hp)
  · obtain ⟨p, hp, rfl⟩ := hm hq; rw [smP_C]; exact G.rows p hp
  · obtain ⟨p, hp, rfl⟩ := hm hq; rw [smP_C] at hr; rw [hw]; exact G.room p hp r hr
  · obtain ⟨p, hp, rfl⟩ := hm hq; rw [smP_w]; exact G.w1 p hp
  · obtain ⟨p, hp, rfl⟩ := hm hq; rw [smP_w]; exact G.one p hp
  · obtain ⟨p, hp, rfl⟩ := hm hq; rw [smP_C] at hr; exact G.up p hp r hr
theorem smG_len (ps : List Pl) : (smG ps).length = ps.length := List.length_map ..
/-- few choices: b lots each at most, and b to their number not over 5000 -/
structure Few (ps : List Pl) (b : Nat) : Prop where
  pos : 1 ≤ b
  each : ∀ p ∈ ps, p.ls.length ≤ b
  all : b ^ ps.length ≤ 5000
theorem smG_few {n : Int} {ps : List Pl} (G : Game n ps) (h5 : n ≤ 5) (h3 : ps.length ≤ 3) : ∃ b, Few (smG ps) b := by
  by_cases h : 2 < ps.length
  · refine ⟨4, by decide, fun q hq => ?_, ?_⟩
    · obtain ⟨p, hp, rfl⟩ := List.mem_map.mp hq
      unfold smP
      rw [if_pos h]
      exact List.length_take_le _ _
    · rw [smG_len, show ps.length = 3 by omega]; decide
  · refine ⟨32, by decide, fun q hq => ?_, ?_⟩
    · obtain ⟨p, hp, rfl⟩ := List.mem_map.mp hq
      exact good_len G.n0 h5 (smP_good ps (G.good p hp))
    · rw [smG_len]
      exact Nat.le_trans (Nat.pow_le_pow_right (n := 32) (by decide) (show ps.length ≤ 2 by omega)) (by decide)
theorem Few.len {ps : List Pl} {b : Nat} (f : Few ps b) : (allC ps).length ≤ 5000 := by
  have := foldC_len b ps [[]] f.each
  rw [List.length_singleton, Nat.one_mul] at this
  exact Nat.le_trans this f.all
theorem pl_p0 (n : Int) (p : Pl) : oIx (plD n p) (.int 0) = .ok (ofr n p.ls) := rfl
theorem tk_p0 (n : Int) (p : Pl) : oIx (tkD n p) (.int 0) = .ok (ofr n p.ls) := rfl
theorem tk_p1 (n : Int) (p : Pl) : oIx (tkD n p) (.int 1) = .ok (tt p.C) := rfl
theorem of_p0 (n : Int) (ls : List (List Int)) : oIx (ofr n ls) (.int 0) = .ok (.int n) := rfl
theorem of_p1 (n : Int) (ls : List (List Int)) : oIx (ofr n ls) (.int 1) = .ok (tt ls) := rfl
theorem cut4 (ls : List (List Int)) : oCut (tt ls) none (some 4) = .ok (tt (ls.take 4)) := by
  by_cases h : 4 ≤ ls.length
  · exact cut_to (k := 4) h
  · show R.ok (PyData.tuple (PD.cutD (ls.map tu) none (some ((4 : Nat) : Int)))) = _
    unfold PD.cutD
    rw [HT.sIx_nat, HT.sIx_none, List.length_map, Nat.min_eq_right (by omega), List.drop_zero, Nat.sub_zero, ← List.map_take, List.take_of_length_le (show ls.length ≤ 4 by omega), List.take_of_length_le (Nat.le_refl _)]
    rfl
theorem v_small (n : Int) (ps : List Pl) (hz : ps.length ≤ 900) : m_law_small [gmD n ps] = .ok (gmD n (smG ps)) := by
  show endR (g_law_small [some (.d (gmD n ps)), none, none, none]) = _
  have key := forGo_inv (i := 2) (g := b_law_small_1) (enc := tkD n) (fun xs ρ => ∃ (done : List Pl) (o2 o3 : Option Sl), ρ = [some (.d (gmD n ps)), some (.own ((done.map (smP ps)).map (tkD n))), o2, o3] ∧ done ++ xs = ps) (by
    rintro p xs ρ ⟨done, o2, o3, rfl, hd⟩
    have hl : done.length < 900 := by
      have := congrArg List.length hd
      rw [List.length_append, List.length_cons] at this
      omega
    have hs : done.length < sizeLine := line_lt (by omega)
    refine ⟨[some (.d (gmD n ps)), some (.own (((done ++ [p]).map (smP ps)).map (tkD n))), some (.d (tkD n p)), some (.d (tt (smP ps p).ls))], ?_, _, _, _, rfl, by rw [List.append_assoc]; exact hd⟩
    by_cases h : 2 < ps.length
    · have e : smP ps p = { p with ls := p.ls.take 4 } := if_pos h
      rw [List.map_append, List.map_append, List.map_singleton, List.map_singleton, e]
      have h2 : (2 : Int) < (ps.length : Int) := by omega
      simp [b_law_small_1, tk_p0, tk_p1, of_p0, of_p1, len_gm, h, h2, cut4, hs]
      rfl
    · have e : smP ps p = p := if_neg h
      rw [List.map_append, List.map_append, List.map_singleton, List.map_singleton, e]
      have h2 : ¬ (2 : Int) < (ps.length : Int) := by omega
      simp [b_law_small_1, tk_p0, tk_p1, of_p0, of_p1, len_gm, h, h2, cut4, hs]
      rfl)
  obtain ⟨ρ', e, done, o2, o3, rfl, hd⟩ := key ps [some (.d (gmD n ps)), some (.own []), none, none] ⟨[], none, none, rfl, rfl⟩
  rw [List.append_nil] at hd
  subst hd
  simp [g_law_small, e, -List.map_map, show items (gmD n done) = .ok (done.map (tkD n)) from rfl]
  rfl
end LW

set_option Elab.async false
set_option maxRecDepth 100000
set_option linter.all false
set_option maxHeartbeats 2000000
namespace LW
open PySem PySem.Spec PyProof.Rows L2 PD

theorem items_lch (cs : List (List (List Int))) : items (lch cs) = .ok (cs.map tt) := rfl
theorem snoc_ok {c : List (List Int)} {l : List Int} (h : c.length ≤ 900) : oAdd (tt c) (.tuple [tu l]) = .ok (tt (c ++ [l])) := by
  rw [tt_1, oAdd_tt (by rw [List.length_singleton]; omega)]
theorem pow1 {b k : Nat} (h : 1 ≤ b) : 1 ≤ b ^ k := Nat.one_le_iff_ne_zero.mpr (by have := Nat.pow_pos (n := k) (show 0 < b by omega); omega)
theorem step_len {cs : List (List (List Int))} {ls : List (List Int)} {b k : Nat} (h1 : 1 ≤ b) (hb : ls.length ≤ b) (h : cs.length * b ^ (k + 1) ≤ 5000) : (addC cs ls).length * b ^ k ≤ 5000 := by
  rw [addC_len]
  refine Nat.le_trans (Nat.mul_le_mul_right _ (Nat.mul_le_mul_left _ hb)) ?_
  rw [Nat.mul_assoc, Nat.mul_comm b, ← Nat.pow_succ]
  exact h
theorem few_now {m b k : Nat} (h1 : 1 ≤ b) (h : m * b ^ k ≤ 5000) : m ≤ 5000 := by
  have := pow1 (k := k) h1
  exact Nat.le_trans (Nat.le_mul_of_pos_right _ this) h
theorem v_all_choices (n : Int) (ps : List Pl) (b : Nat) (f : Few ps b) (hz : ps.length ≤ 800) : m_all_choices [.list (ps.map (plD n))] = .ok (lch (allC ps)) := by
  show endR (g_all_choices [some (.d (.list (ps.map (plD n)))), none, none, none, none]) = _
  generalize hPd : PyData.list (ps.map (plD n)) = Pd
  have ei : items Pd = .ok (ps.map (plD n)) := by rw [← hPd]; rfl
  have key := forGo_inv (i := 2) (g := b_all_choices_1) (enc := plD n) (fun xs ρ => ∃ (cs : List (List (List Int))) (o2 : Option Sl), ρ = [some (.d Pd), some (.d (lch cs)), o2, none, none] ∧ foldC xs cs = allC ps ∧ cs.length * b ^ xs.length ≤ 5000 ∧ (∀ p ∈ xs, p.ls.length ≤ b) ∧ ∀ c ∈ cs, c.length + xs.length ≤ 800) (by
    rintro p xs ρ ⟨cs, o2, rfl, hf, hl, hb, hc⟩
    have hn := step_len f.pos (hb p List.mem_cons_self) (k := xs.length) (by simpa using hl)
    refine ⟨[some (.d Pd), some (.d (lch (addC cs p.ls))), some (.d (plD n p)), none, none], ?_, _, _, rfl, hf, hn, fun q hq => hb q (List.mem_cons_of_mem _ hq), fun c hc2 => ?_⟩
    · have e := lc2_of (enc := tt) (fi := dItems (dVar 1)) (t := .nm 3) (ft := dYes) (fi1 := dItems (dTwo oIx (dTwo oIx (dVar 2) (dC (.int 0))) (dC (.int 1)))) (t1 := .nm 4) (ft1 := dYes) (fe := dTwo oAdd (dVar 3) (dTup (dCons (dVar 4) dNil))) (vs := [3, 4]) (vs1 := [4]) (ρ := [some (.d Pd), some (.d (lch cs)), some (.d (plD n p)), none, none]) (xs := cs) (st := fun c => [some (.d Pd), some (.d (lch cs)), some (.d (plD n p)), some (.d (tt c)), none]) (q := fun _ => true) (es := fun _ => p.ls.map tu) (ys := fun c => p.ls.map fun l => tt (c ++ [l])) rfl (fun c hc2 => ⟨rfl, rfl, fun _ => ⟨by simp [pl_p0, of_p1], by
        have := hc c hc2
        have r := lcGo_of (enc := tu) (t := .nm 4) (ft := dYes) (fe := dTwo oAdd (dVar 3) (dTup (dCons (dVar 4) dNil))) (ρ := wipeR [some (.d Pd), some (.d (lch cs)), some (.d (plD n p)), some (.d (tt c)), none] [4]) (xs := p.ls) (st := fun l => [some (.d Pd), some (.d (lch cs)), some (.d (plD n p)), some (.d (tt c)), some (.d (tu l))]) (q := fun _ => true) (g := fun l => tt (c ++ [l])) (fun l hl => ⟨rfl, rfl, fun _ => by simp [snoc_ok (show c.length ≤ 900 by omega)]⟩)
        rw [r, List.filter_eq_self.mpr (fun _ _ => rfl)]⟩⟩) (by
          rw [List.filter_eq_self.mpr (fun _ _ => rfl)]
          have : (cs.flatMap fun c => p.ls.map fun l => tt (c ++ [l])).length = (addC cs p.ls).length := by
            unfold addC
            induction cs with
            | nil => rfl
            | cons c cs ih => simp [List.length_flatMap]
          rw [this]
          have := few_now f.pos hn
          omega)
      rw [List.filter_eq_self.mpr (fun _ _ => rfl)] at e
      have e2 : (cs.flatMap fun c => p.ls.map fun l => tt (c ++ [l])) = (addC cs p.ls).map tt := by
        unfold addC
        rw [List.map_flatMap]
        congr 1
        funext c
        rw [List.map_map]
        rfl
      rw [e2] at e
      show b_all_choices_1 [some (.d Pd), some (.d (lch cs)), some (.d (plD n p)), none, none] = _
      unfold b_all_choices_1
      rw [ev_set, e]
      rfl
    · obtain ⟨c', h1, h2⟩ := List.mem_flatMap.mp hc2
      obtain ⟨l, _, rfl⟩ := List.mem_map.mp h2
      have := hc c' h1
      simp at this ⊢
      omega)
  obtain ⟨ρ', e, cs, o2, rfl, hf, _, _⟩ := key ps [some (.d Pd), some (.d (lch [[]])), none, none, none] ⟨[[]], none, rfl, rfl, by rw [List.length_singleton, Nat.one_mul]; exact f.all, f.each, fun c hc => by rw [List.mem_singleton.mp hc]; simpa using hz⟩
  have hf : cs = allC ps := hf
  subst hf
  have el : lt [[]] = lch [[]] := rfl
  simp [g_all_choices, el, ei, e, -List.map_map]
theorem v_law_choices (n : Int) (ps : List Pl) (b : Nat) (f : Few ps b) (hz : ps.length ≤ 800) : m_law_choices [gmD n ps] = .ok (lch (allC ps)) := by
  show endR (g_law_choices [some (.d (gmD n ps)), none, none, none, none, none]) = _
  have ei : items (gmD n ps) = .ok (ps.map (tkD n)) := rfl
  generalize gmD n ps = Pd at ei
  have key := forGo_inv (i := 2) (g := b_law_choices_3) (enc := tkD n) (fun xs ρ => ∃ (cs : List (List (List Int))) (o2 o3 o4 o5 : Option Sl), ρ = [some (.d Pd), some (.d (lch cs)), o2, o3, o4, o5] ∧ (∀ z, o3 ≠ some (.own z)) ∧ foldC xs cs = allC ps ∧ cs.length * b ^ xs.length ≤ 5000 ∧ (∀ p ∈ xs, p.ls.length ≤ b) ∧ ∀ c ∈ cs, c.length + xs.length ≤ 800) (by
    rintro p xs ρ ⟨cs, o2, o3, o4, o5, rfl, ho, hf, hl, hb, hc⟩
    have hn := step_len f.pos (hb p List.mem_cons_self) (k := xs.length) (by simpa using hl)
    have hN := few_now f.pos hn
    have inner := forGo_inv (i := 4) (g := b_law_choices_2) (enc := tt) (fun zs ρ => ∃ (done : List (List (List Int))) (o4 o5 : Option Sl), ρ = [some (.d Pd), some (.d (lch cs)), some (.d (tkD n p)), some (.own ((addC done p.ls).map tt)), o4, o5] ∧ done ++ zs = cs) (by
      rintro c zs ρ ⟨done, o4, o5, rfl, hd⟩
      have hcm : c ∈ cs := by rw [← hd]; simp
      have hcl := hc c hcm
      have hdl : (addC done p.ls).length + p.ls.length ≤ 5000 := by
        have : (addC cs p.ls).length = (addC done p.ls).length + (addC (c :: zs) p.ls).length := by rw [← hd, addC_app, List.length_append]
        have h3 : (addC (c :: zs) p.ls).length = (zs.length + 1) * p.ls.length := by rw [addC_len, List.length_cons]
        rw [Nat.add_mul, Nat.one_mul] at h3
        omega
      have lots := forGo_inv (i := 5) (g := b_law_choices_1) (enc := tu) (fun ys ρ => ∃ (dl : List (List Int)) (o5 : Option Sl), ρ = [some (.d Pd), some (.d (lch cs)), some (.d (tkD n p)), some (.own ((addC done p.ls ++ dl.map fun l => c ++ [l]).map tt)), some (.d (tt c)), o5] ∧ dl ++ ys = p.ls) (by
        rintro l ys ρ ⟨dl, o5, rfl, hdd⟩
        have hll : dl.length + 1 ≤ p.ls.length := by
          have := congrArg List.length hdd
          rw [List.length_append, List.length_cons] at this
          omega
        have hs : (addC done p.ls).length + dl.length < sizeLine := line_lt (by omega)
        refine ⟨[some (.d Pd), some (.d (lch cs)), some (.d (tkD n p)), some (.own ((addC done p.ls ++ (dl ++ [l]).map fun l => c ++ [l]).map tt)), some (.d (tt c)), some (.d (tu l))], ?_, dl ++ [l], _, rfl, by rw [List.append_assoc]; exact hdd⟩
        simp [b_law_choices_1, snoc_ok (show c.length ≤ 900 by omega), hs])
      obtain ⟨ρ', e, dl, o5', rfl, hdd⟩ := lots p.ls [some (.d Pd), some (.d (lch cs)), some (.d (tkD n p)), some (.own ((addC done p.ls).map tt)), some (.d (tt c)), o5] ⟨[], o5, by simp, rfl⟩
      rw [List.append_nil] at hdd
      subst hdd
      refine ⟨[some (.d Pd), some (.d (lch cs)), some (.d (tkD n p)), some (.own ((addC done p.ls ++ p.ls.map fun l => c ++ [l]).map tt)), some (.d (tt c)), o5'], ?_, done ++ [c], _, _, by rw [addC_app, addC_1], by rw [List.append_assoc]; exact hd⟩
      simp [b_law_choices_2, tk_p0, of_p1, e, -List.map_map, -List.map_append])
    obtain ⟨ρ', e, done, o4', o5', rfl, hd⟩ := inner cs [some (.d Pd), some (.d (lch cs)), some (.d (tkD n p)), some (.own []), o4, o5] ⟨[], o4, o5, rfl, rfl⟩
    rw [List.append_nil] at hd
    subst hd
    have hz : (addC done p.ls).length ≤ 100000 := by omega
    refine ⟨[some (.d Pd), some (.d (lch (addC done p.ls))), some (.d (tkD n p)), some (.d (lch (addC done p.ls))), o4', o5'], ?_, _, _, _, _, _, rfl, by simp, hf, hn, fun q hq => hb q (List.mem_cons_of_mem _ hq), fun c hc2 => ?_⟩
    · have bl : bList [lch (addC done p.ls)] = .ok (lch (addC done p.ls)) := rfl
      have el : PyData.list ((addC done p.ls).map tt) = lch (addC done p.ls) := rfl
      simp [b_law_choices_3, items_lch, e, el, bl, -List.map_map]
    · obtain ⟨c', h1, h2⟩ := List.mem_flatMap.mp hc2
      obtain ⟨l, _, rfl⟩ := List.mem_map.mp h2
      have := hc c' h1
      simp at this ⊢
      omega)
  obtain ⟨ρ', e, cs, o2, o3, o4, o5, rfl, _, hf, _, _⟩ := key ps [some (.d Pd), some (.d (lch [[]])), none, none, none, none] ⟨[[]], none, none, none, none, rfl, by simp, rfl, by rw [List.length_singleton, Nat.one_mul]; exact f.all, f.each, fun c hc => by rw [List.mem_singleton.mp hc]; simpa using hz⟩
  have hf : cs = allC ps := hf
  subst hf
  have el : lt [[]] = lch [[]] := rfl
  simp [g_law_choices, el, ei, e, -List.map_map]
end LW

set_option Elab.async false
set_option maxRecDepth 100000
set_option linter.all false
set_option maxHeartbeats 2000000
namespace LW
open PySem PySem.Spec PyProof.Rows L2 PD

theorem v_law_are_choices (n : Int) (ps : List Pl) (cs : List (List (List Int))) (P : Play n ps) (hz : ps.length ≤ 800) (h : ∀ c ∈ cs, Chs ps c) : m_law_are_choices [.tuple (cs.map tt), gmD n ps] = .ok (.bool true) := by
  show endR (g_law_are_choices [some (.d (.tuple (cs.map tt))), some (.d (gmD n ps)), none, none]) = _
  have ei : items (.tuple (cs.map tt)) = .ok (cs.map tt) := rfl
  have et : oIsi "tuple" (.tuple (cs.map tt)) = .ok (.bool true) := isi_tuple _
  generalize PyData.tuple (cs.map tt) = Cd at ei et
  have key := forGo_inv (i := 2) (g := b_law_are_choices_1) (enc := tt) (fun xs ρ => ∃ (o2 o3 : Option Sl), ρ = [some (.d Cd), some (.d (gmD n ps)), o2, none] ∧ ∀ c ∈ xs, Chs ps c) (by
    rintro c xs ρ ⟨o2, o3, rfl, hc⟩
    have hh := hc c List.mem_cons_self
    refine ⟨[some (.d Cd), some (.d (gmD n ps)), some (.d (tt c)), none], ?_, _, none, rfl, fun y hy => hc y (List.mem_cons_of_mem _ hy)⟩
    have hb : bAll [.list ((rangeI 0 ps.length).map fun _ => PyData.bool true)] = .ok (.bool true) := by
      rw [bAll_map (fun _ : Int => true)]
      simp
    have er := rngA1_ok (n := (ps.length : Int)) (by omega) (by omega)
    simp [b_law_are_choices_1, isi_tt, hh.len, len_gm, er]
    rw [lcR_mem (g := fun _ => PyData.bool true)]
    · simp [hb, -List.map_const']
    · intro i hi
      obtain ⟨i0, i1⟩ := mem_rangeI.mp hi
      have hl : i < (c.length : Int) := by rw [hh.len]; exact i1
      have a := chs_asc P hh i0 i1
      simp [ix_tt i0 hl, ix_tk (n := n) i0 i1, tk_p0, of_p0, v_is_set _ n a (by have := a.len; have := P.n1; omega)])
  obtain ⟨ρ', e, o2, o3, rfl, _⟩ := key cs [some (.d Cd), some (.d (gmD n ps)), none, none] ⟨none, none, rfl, h⟩
  simp [g_law_are_choices, et, ei, e, -List.map_map]
def restsL (n : Int) (ps : List Pl) : List (List (List Int)) := (allC ps).filter fun c => (firstG n ps c).isNone
theorem isNone_fg (o : Option (Int × List Int)) : isNone (fgD o) = o.isNone := by cases o <;> rfl
theorem bTup_lch (cs : List (List (List Int))) : bTuple [lch cs] = .ok (.tuple (cs.map tt)) := rfl
theorem v_choices (n : Int) (ps : List Pl) (b : Nat) (G : Game n ps) (f : Few ps b) (hz : ps.length ≤ 800) : m_choices [gmD n ps] = .ok (.tuple ((allC ps).map tt)) := by
  show endR (g_choices [some (.d (gmD n ps))]) = _
  simp [g_choices, v_players n ps G.one, v_all_choices n ps b f hz, bTup_lch, -List.map_map]
theorem v_all_rests (n : Int) (ps : List Pl) (b : Nat) (P : Play n ps) (f : Few ps b) (hz : ps.length ≤ 800) : m_all_rests [.list (ps.map (plD n))] = .ok (lch (restsL n ps)) := by
  show endR (g_all_rests [some (.d (.list (ps.map (plD n)))), none]) = _
  have e1 := v_all_choices n ps b f hz
  have e2 : ∀ c ∈ allC ps, m_first_gain_for [.list (ps.map (plD n)), tt c] = .ok (fgD (firstG n ps c)) := fun c hc => v_first_gain_for n ps c P (allC_chs hc)
  generalize PyData.list (ps.map (plD n)) = Pd at e1 e2
  have e := lc_of (enc := tt) (fi := dItems (dArg m_all_choices (dCons (dVar 0) dNil))) (t := .nm 1) (ft := dAsB (dOne (fun d => .ok (.bool (isNone d))) (dArg m_first_gain_for (dCons (dVar 0) (dCons (dVar 1) dNil))))) (fe := dVar 1) (vs := [1]) (ρ := [some (.d Pd), none]) (xs := allC ps) (st := fun c => [some (.d Pd), some (.d (tt c))]) (q := fun c => (firstG n ps c).isNone) (g := tt) (by simp [e1, items_lch]) fun c hc => ⟨rfl, by simp [e2 c hc, isNone_fg], fun _ => by simp⟩
  unfold g_all_rests
  rw [ev_ret, e]
  rfl
theorem v_rests (n : Int) (ps : List Pl) (b : Nat) (G : Game n ps) (f : Few ps b) (hz : ps.length ≤ 800) : m_rests [gmD n ps] = .ok (.tuple ((restsL n ps).map tt)) := by
  show endR (g_rests [some (.d (gmD n ps))]) = _
  simp [g_rests, v_players n ps G.one, v_all_rests n ps b G.toPlay f hz, bTup_lch, -List.map_map]
theorem shp_lch (cs : List (List (List Int))) : shp (lch cs) = true := shp_of (n := 3) (dep_list fun y hy => by
  obtain ⟨c, _, rfl⟩ := List.mem_map.mp hy
  exact dep_tt c)
theorem main_k23 (ns : List Int) (hn : ns.length ≤ 63) : m_law_k23 [.list (ns.map .int)] = .ok (.bool true) := by
  show endR (g_law_k23 [some (.d (li ns)), none, none, none, none, none]) = _
  obtain ⟨n, ps0, e1, G0, hn5, hp3, _⟩ := v_law_game ns 0 false (by decide)
  have e2 := v_small n ps0 (by omega)
  obtain ⟨b, f⟩ := smG_few G0 hn5 hp3
  have G := smG_game G0
  have hz : (smG ps0).length ≤ 800 := by rw [smG_len]; omega
  generalize smG ps0 = ps at e2 f G hz
  have e3 := v_law_choices n ps b f hz
  have e4 := v_choices n ps b G f hz
  have e5 := v_rests n ps b G f hz
  have a1 := v_law_are_choices n ps (allC ps) G.toPlay hz fun c hc => allC_chs hc
  have a2 := v_law_are_choices n ps (restsL n ps) G.toPlay hz fun c hc => allC_chs (List.mem_filter.mp hc).1
  have b1 : bList [.tuple ((allC ps).map tt)] = .ok (lch (allC ps)) := rfl
  have b2 : bList [.tuple ((restsL n ps).map tt)] = .ok (lch (restsL n ps)) := rfl
  have q1 := oNe_self (shp_lch (allC ps))
  have q2 := oEq_self (shp_lch (restsL n ps))
  have e6 : ∀ c ∈ allC ps, m_law_first_gain [gmD n ps, tt c] = .ok (fgD (firstG n ps c)) := fun c hc => v_law_first_gain n ps c G (allC_chs hc) (by omega)
  generalize PyData.tuple ((allC ps).map tt) = C at e4 a1 b1
  generalize PyData.tuple ((restsL n ps).map tt) = D at e5 a2 b2
  generalize gmD n ps = Gm at *
  have e := lc_of (enc := tt) (fi := dItems (dVar 2)) (t := .nm 5) (ft := dAsB (dOne (fun d => .ok (.bool (isNone d))) (dArg m_law_first_gain (dCons (dVar 1) (dCons (dVar 5) dNil))))) (fe := dVar 5) (vs := [5]) (ρ := [some (.d (li ns)), some (.d Gm), some (.d (lch (allC ps))), some (.d C), none, none]) (xs := allC ps) (st := fun c => [some (.d (li ns)), some (.d Gm), some (.d (lch (allC ps))), some (.d C), none, some (.d (tt c))]) (q := fun c => (firstG n ps c).isNone) (g := tt) (by simp [items_lch]) fun c hc => ⟨rfl, by simp [e6 c hc, isNone_fg], fun _ => by simp⟩
  have er : PyData.list (((allC ps).filter fun c => (firstG n ps c).isNone).map tt) = lch (restsL n ps) := rfl
  rw [er] at e
  unfold g_law_k23
  simp only [ev_seq, ev_set] at e ⊢
  simp [e1, e2, e3, e4, a1, b1, q1, -ev_lc]
  rw [e]
  simp [e5, a2, b2, q2]
end LW

set_option Elab.async false
set_option maxRecDepth 100000
set_option linter.all false
set_option maxHeartbeats 4000000
namespace LW
open PySem PySem.Spec PyProof.Rows L2 PD
theorem main_k32 (ns : List Int) (hn : ns.length ≤ 63) : m_law_k32 [.list (ns.map .int)] = .ok (.bool true) := by
  show endR (g_law_k32 [some (.d (li ns)), none, none, none, none, none, none, none]) = _
  obtain ⟨c0, e0⟩ := v_cell ns 0 (by decide)
  obtain ⟨c1, e1⟩ := v_cell ns 1 (by decide)
  obtain ⟨c2, e2⟩ := v_cell ns 2 (by decide)
  obtain ⟨L, eL, hL, bL⟩ := v_draws c0 4 (by decide) (by decide)
  have hL4 : L.length = 4 := hL
  have e30 := ix_li (L := L) (i := 0) (by decide) (by omega)
  have e31 := ix_li (L := L) (i := 1) (by decide) (by omega)
  have e32 := ix_li (L := L) (i := 2) (by decide) (by omega)
  have e33 := ix_li (L := L) (i := 3) (by decide) (by omega)
  have fa := fmod_lo (ixv L 0) (b := 5) (by decide)
  have fb := fmod_hi (ixv L 0) (b := 5) (by decide)
  have ga := fmod_lo (ixv L 3) (b := 5) (by decide)
  have gb := fmod_hi (ixv L 3) (b := 5) (by decide)
  have e8 := ix_tu (L := [4, 5, 3, 4, 2]) (i := (ixv L 0).fmod 5) fa (by simpa using fb)
  have m8 : ixv [4, 5, 3, 4, 2] ((ixv L 0).fmod 5) ∈ [4, 5, 3, 4, 2] := ixv_mem fa (by simpa using fb)
  generalize ixv [4, 5, 3, 4, 2] ((ixv L 0).fmod 5) = N at e8 m8
  have hN : 2 ≤ N ∧ N ≤ 5 := by
    simp only [List.mem_cons, List.not_mem_nil, or_false] at m8
    omega
  have e9 := ix_tu (L := [4, 3, 4, 2, 1]) (i := (ixv L 3).fmod 5) ga (by simpa using gb)
  have m9 : ixv [4, 3, 4, 2, 1] ((ixv L 3).fmod 5) ∈ [4, 3, 4, 2, 1] := ixv_mem ga (by simpa using gb)
  generalize ixv [4, 3, 4, 2, 1] ((ixv L 3).fmod 5) = M at e9 m9
  have hM : 1 ≤ M ∧ M ≤ 4 := by
    simp only [List.mem_cons, List.not_mem_nil, or_false] at m9
    omega
  have la := fmod_lo (ixv L 1) (b := N - 1) (by omega)
  have lb := fmod_hi (ixv L 1) (b := N - 1) (by omega)
  have el := oMod_int (i := ixv L 1) (j := N - 1) (by omega)
  generalize (ixv L 1).fmod (N - 1) = A at la lb el
  have ha := fmod_lo (ixv L 2) (b := N - 1 - A) (by omega)
  have hb := fmod_hi (ixv L 2) (b := N - 1 - A) (by omega)
  have eh := oMod_int (i := ixv L 2) (j := N - 1 - A) (by omega)
  generalize (ixv L 2).fmod (N - 1 - A) = D at ha hb eh
  obtain ⟨ks, ek, hk⟩ := v_smooth2 c1 N (by omega) (by omega)
  obtain ⟨os, eo, ho⟩ := v_lots2 c2 M (by omega) (by omega)
  have r1 : m_law_in_both_orders [.tuple [.int N, tt ks], .int A, .int (A + 1 + D)] = .ok (.bool true) := v_in_both N A (A + 1 + D) ks hk la (by omega) (by omega) (by omega)
  have r2 : m_law_mirrored [.tuple [.int M, tt os]] = .ok (.bool true) := v_mirrored M os ho (by omega) (by omega)
  have r3 : m_law_mirrored [.tuple [.int N, tt ks]] = .ok (.bool true) := v_mirrored N ks hk.good (by omega) (by omega)
  have t5 : PyData.tuple [.int 4, .int 5, .int 3, .int 4, .int 2] = tu [4, 5, 3, 4, 2] := rfl
  have t6 : PyData.tuple [.int 4, .int 3, .int 4, .int 2, .int 1] = tu [4, 3, 4, 2, 1] := rfl
  simp [g_law_k32, t5, t6, e0, e1, e2, eL, e30, e31, e32, e33, oMod_int, e8, e9, el, eh, ek, eo, r1, r2, r3]
end LW

set_option Elab.async false
set_option maxRecDepth 100000
set_option linter.all false
set_option maxHeartbeats 2000000
namespace LW
open PySem PySem.Spec PyProof.Rows L2 PD
theorem v_closed (lot : List Int) (x : Int) (hl : lot.length ≤ 1000) : m_law_closed [tu lot, .int x] = .ok (tu (lot.filter (fun y => decide (y < x)) ++ (lot.filter (fun y => decide (x < y))).map (fun y => y - 1))) := by
  show endR (g_law_closed [some (.d (tu lot)), some (.d (.int x)), none]) = _
  have := List.length_filter_le (fun y => decide (y < x)) lot
  have := List.length_filter_le (fun y => decide (x < y)) lot
  simp [g_law_closed, oAdd_li (a := lot.filter (fun y => decide (y < x))) (b := (lot.filter (fun y => decide (x < y))).map (fun y => y - 1)) (by rw [List.length_map]; omega)]
def goneL (x : Int) (l : List Int) : List Int := l.filter (fun y => decide (y < x)) ++ (l.filter (fun y => decide (x < y))).map (fun y => y - 1)
theorem gone_eq (x : Int) : ∀ l : List Int, l.Pairwise (· < ·) → goneL x l = gone x l
  | [], _ => rfl
  | y :: ys, h => by
    obtain ⟨h1, h2⟩ := List.pairwise_cons.mp h
    have ih := gone_eq x ys h2
    unfold goneL gone at ih ⊢
    rcases Int.lt_trichotomy y x with e | e | e
    · have a1 : ¬ x < y := by omega
      have a2 : ¬ y = x := by omega
      simp only [List.filter_cons, e, a1, a2, decide_true, decide_false, if_true, if_false, beq_eq_false_iff_ne, ne_eq, not_false_eq_true, Bool.not_false, List.map_cons, List.cons_append, ih, beq_iff_eq, Bool.false_eq_true, show (y == x) = false from beq_eq_false_iff_ne.mpr a2]
    · subst e
      simp only [List.filter_cons, Int.lt_irrefl, decide_false, Bool.false_eq_true, if_false, beq_self_eq_true, Bool.not_true, ih]
    · have a1 : ¬ y < x := by omega
      have a2 : ¬ y = x := by omega
      have none : ys.filter (fun y => decide (y < x)) = [] := List.filter_eq_nil_iff.mpr fun z hz => by have := h1 z hz; simp; omega
      rw [none, List.nil_append] at ih
      simp only [List.filter_cons, e, a1, decide_true, decide_false, Bool.false_eq_true, if_true, if_false, show (y == x) = false from beq_eq_false_iff_ne.mpr a2, Bool.not_false, List.map_cons, none, List.nil_append, ih]
theorem v_smaller (ls kept : List (List Int)) (x : Int) (h : ∀ l ∈ ls, l.Pairwise (· < ·) ∧ l.length ≤ 1000) (hk : ∀ l ∈ kept, l ∈ ls) : m_law_smaller [tt ls, lt kept, .int x] = .ok (tt (sortT ((orAll ls kept).map (gone x)))) := by
  show endR (g_law_smaller [some (.d (tt ls)), some (.d (lt kept)), some (.d (.int x)), none]) = _
  have c1 : ∀ l ∈ ls, m_law_closed [tu l, .int x] = .ok (tu (gone x l)) := fun l hl => by
    rw [v_closed l x (h l hl).2]
    exact congrArg (fun z => R.ok (tu z)) (gone_eq x l (h l hl).1)
  have c2 : lcR (fun _ => .ok true) (fun l => m_law_closed [tu l, .int x]) ls = .ok (ls.map fun l => tu (gone x l)) := lcR_mem c1
  have c3 : lcR (fun _ => .ok true) (fun l => m_law_closed [tu l, .int x]) kept = .ok (kept.map fun l => tu (gone x l)) := lcR_mem fun l hl => c1 l (hk l hl)
  by_cases e : kept.length = 0
  · have e' : kept = [] := List.length_eq_zero_iff.mp e
    simp [g_law_smaller, e', c2, orAll]
  · have e' : kept ≠ [] := fun z => e (by rw [z]; rfl)
    simp [g_law_smaller, e', c3, orAll]
theorem v_is_offer (n : Int) (ls : List (List Int)) (h : ∀ l ∈ ls, Asc n l) (hn : n ≤ 1000) : m_law_is_offer [.tuple [.int n, tt ls], .int n, tt ls] = .ok (.bool true) := by
  show endR (g_law_is_offer [some (.d (.tuple [.int n, tt ls])), some (.d (.int n)), some (.d (tt ls)), none]) = _
  have key := forGo_inv (i := 3) (g := b_law_is_offer_1) (enc := tu) (fun xs ρ => ∃ o3, ρ = [some (.d (.tuple [.int n, tt ls])), some (.d (.int n)), some (.d (tt ls)), o3] ∧ ∀ l ∈ xs, Asc n l) (by
    rintro l xs ρ ⟨o2, rfl, hk⟩
    refine ⟨[some (.d (.tuple [.int n, tt ls])), some (.d (.int n)), some (.d (tt ls)), some (.d (tu l))], ?_, _, rfl, fun y hy => hk y (List.mem_cons_of_mem _ hy)⟩
    have hl := hk l List.mem_cons_self
    simp [b_law_is_offer_1, v_is_set l n hl (by have := hl.len; omega)])
  obtain ⟨ρ', e, o2, rfl, _⟩ := key ls [some (.d (.tuple [.int n, tt ls])), some (.d (.int n)), some (.d (tt ls)), none] ⟨none, rfl, h⟩
  have b2 : bLen [.tuple [.int n, tt ls]] = .ok (.int 2) := rfl
  simp [g_law_is_offer, isi_tuple, isi_tt, b2, v_integer, e]
theorem v_tells31 (n : Int) (ls : List (List Int)) (hn : 0 ≤ n ∧ n ≤ 500) (h : ∀ l ∈ ls, Asc n l) : m_law_tells_k31 [.tuple [.int n, tt ls]] = .ok (.bool true) := by
  show endR (g_law_tells_k31 [some (.d (.tuple [.int n, tt ls])), none, none, none, none]) = _
  have key := forGo_inv (i := 2) (g := b_law_tells_k31_1) (enc := PyData.int) (fun xs ρ => ∃ o2 o3, ρ = [some (.d (.tuple [.int n, tt ls])), some (.d (.int n)), o2, o3, none] ∧ ∀ k ∈ xs, 0 ≤ k ∧ k < n) (by
    rintro k xs ρ ⟨o2, o3, rfl, hk⟩
    have hk0 := hk k List.mem_cons_self
    have hls : ∀ l ∈ ls, l.Pairwise (· < ·) ∧ l.length ≤ 1000 := fun l hl => ⟨(h l hl).1, by have := (h l hl).len; omega⟩
    have s1 := v_smaller ls (ls.filter fun l => !decide (k ∈ l)) k hls (fun l hl => (List.mem_filter.mp hl).1)
    have s2 := v_smaller ls (ls.filter fun l => decide (k ∈ l)) k hls (fun l hl => (List.mem_filter.mp hl).1)
    have asc : ∀ kept : List (List Int), (∀ l ∈ kept, l ∈ ls) → ∀ l ∈ sortT ((orAll ls kept).map (gone k)), Asc (n - 1) l := fun kept hkp l hl => by
      obtain ⟨l', hl', rfl⟩ := List.mem_map.mp (mem_sortT.mp hl)
      exact gone_asc (h l' (orAll_sub hkp hl')) hk0
    have o1 := v_is_offer (n - 1) _ (asc (ls.filter fun l => !decide (k ∈ l)) fun l hl => (List.mem_filter.mp hl).1) (by omega)
    have o2' := v_is_offer (n - 1) _ (asc (ls.filter fun l => decide (k ∈ l)) fun l hl => (List.mem_filter.mp hl).1) (by omega)
    refine ⟨[some (.d (.tuple [.int n, tt ls])), some (.d (.int n)), some (.d (.int k)), some (.d (tt (sortT ((orAll ls (ls.filter fun l => decide (k ∈ l))).map (gone k))))), none], ?_, _, _, rfl, fun y hy => hk y (List.mem_cons_of_mem _ hy)⟩
    simp [b_law_tells_k31_1, s1, s2, v_without, v_holding, o1, o2'])
  obtain ⟨ρ', e, o2, o3, rfl, _⟩ := key (rangeI 0 n) [some (.d (.tuple [.int n, tt ls])), some (.d (.int n)), none, none, none] ⟨none, none, rfl, fun k hk => mem_rangeI.mp hk⟩
  simp [g_law_tells_k31, rngA1_ok (n := n) (by omega) (by omega), e]
theorem v_drawn_set (c n : Int) (hn : 0 ≤ n ∧ n ≤ 500) : ∃ r : List Int, m_law_drawn_set [.int c, .int n] = .ok (tu r) ∧ Asc n r := by
  show ∃ r : List Int, endR (g_law_drawn_set [some (.d (.int c)), some (.d (.int n)), none, none, none]) = _ ∧ _
  have key := forGo_inv (i := 4) (g := b_law_drawn_set_1) (enc := PyData.int) (fun xs ρ => ∃ (k left : Int) (r : List Int) (o4 : Option Sl), ρ = [some (.d (.int c)), some (.d (.int n)), some (.d (.int left)), some (.own (r.map .int)), o4] ∧ xs = rangeI k n ∧ 0 ≤ k ∧ k ≤ n ∧ Asc k r) (by
    rintro x xs ρ ⟨k, left, r, o4, rfl, hx, k0, k1, ha⟩
    obtain ⟨hk1, rfl, rfl⟩ := rangeI_inv hx
    have hs : r.length < sizeLine := line_lt (by have := ha.len; omega)
    by_cases hb : left.fmod 2 = 1
    · refine ⟨[some (.d (.int c)), some (.d (.int n)), some (.d (.int (left.fdiv 2))), some (.own ((r ++ [x]).map .int)), some (.d (.int x))], ?_, x + 1, _, _, _, rfl, rfl, by omega, by omega, (asc_succ k0).mpr (.inr ⟨r, ha, rfl⟩)⟩
      simp [b_law_drawn_set_1, oMod_int, oDiv_lit, hb, hs]
    · refine ⟨[some (.d (.int c)), some (.d (.int n)), some (.d (.int (left.fdiv 2))), some (.own (r.map .int)), some (.d (.int x))], ?_, x + 1, _, _, _, rfl, rfl, by omega, by omega, (asc_succ k0).mpr (.inl ha)⟩
      simp [b_law_drawn_set_1, oMod_int, oDiv_lit, hb, hs])
  obtain ⟨ρ', e, k, left, r, o4, rfl, hx, k0, k1, ha⟩ := key (rangeI 0 n) [some (.d (.int c)), some (.d (.int n)), some (.d (.int c)), some (.own []), none] ⟨0, c, [], none, rfl, rfl, by omega, hn.1, Asc.nil _⟩
  have ek : k = n := by
    by_cases h : k < n
    · rw [rangeI_cons h] at hx; cases hx
    · omega
  subst ek
  refine ⟨r, ?_, ha⟩
  simp [g_law_drawn_set, rngA1_ok (n := k) (by omega) (by omega), e]
def drawnF (n c : Int) : List Int := match m_law_drawn_set [.int c, .int n] with
  | .ok d => unTu d
  | _ => []
theorem drawnF_ok (c n : Int) (hn : 0 ≤ n ∧ n ≤ 500) : m_law_drawn_set [.int c, .int n] = .ok (tu (drawnF n c)) ∧ Asc n (drawnF n c) := by
  obtain ⟨r, e, h⟩ := v_drawn_set c n hn
  have : drawnF n c = r := by unfold drawnF; rw [e]; exact unTu_tu r
  rw [this]; exact ⟨e, h⟩
theorem v_drawn_lots (c n : Int) (hn : 0 ≤ n ∧ n ≤ 500) : ∃ ks : List (List Int), m_law_drawn_lots [.int c, .int n] = .ok (tt ks) ∧ ∀ k ∈ ks, Asc n k := by
  show ∃ ks : List (List Int), endR (g_law_drawn_lots [some (.d (.int c)), some (.d (.int n)), none, none]) = _ ∧ _
  obtain ⟨L, e1, hL, bL⟩ := v_draws c 7 (by decide) (by decide)
  have hL7 : L.length = 7 := hL
  have e3 := ix_li (L := L) (i := 0) (by decide) (by omega)
  generalize ixv L 0 = d0 at e3
  have b1 := fmod_lo d0 (b := 6) (by decide)
  have b2 := fmod_hi d0 (b := 6) (by decide)
  have e5 := rngA1_ok (n := 1 + d0.fmod 6) (by omega) (by omega)
  obtain ⟨ks, e6, h6⟩ := v_antichain ((rangeI 0 (1 + d0.fmod 6)).map fun k => drawnF n (ixv L (1 + k))) (by rw [List.length_map, rangeI_len]; omega)
  refine ⟨ks, ?_, fun k hk => ?_⟩
  · simp [g_law_drawn_lots, e1, e3, oMod_int, e5]
    rw [lcR_mem (g := fun k => tu (drawnF n (ixv L (1 + k))))]
    · simp [e6]
    · intro k hk
      obtain ⟨k1, k2⟩ := mem_rangeI.mp hk
      simp [ix_li (L := L) (i := 1 + k) (by omega) (by omega), (drawnF_ok _ n hn).1]
  · obtain ⟨q, _⟩ := (h6 k).mp hk
    obtain ⟨j, hj, rfl⟩ := List.mem_map.mp q
    exact (drawnF_ok _ n hn).2
theorem main_k31 (ns : List Int) (hn : ns.length ≤ 63) : m_law_k31 [.list (ns.map .int)] = .ok (.bool true) := by
  show endR (g_law_k31 [some (.d (li ns)), none, none, none, none, none]) = _
  obtain ⟨c0, e0⟩ := v_cell ns 0 (by decide)
  obtain ⟨c1, e1⟩ := v_cell ns 1 (by decide)
  obtain ⟨c2, e2⟩ := v_cell ns 2 (by decide)
  obtain ⟨L, eL, hL, bL⟩ := v_draws c0 2 (by decide) (by decide)
  have hL2 : L.length = 2 := hL
  have e30 := ix_li (L := L) (i := 0) (by decide) (by omega)
  have e31 := ix_li (L := L) (i := 1) (by decide) (by omega)
  have f6a := fmod_lo (ixv L 0) (b := 6) (by decide)
  have f6b := fmod_hi (ixv L 0) (b := 6) (by decide)
  have f7a := fmod_lo (ixv L 1) (b := 7) (by decide)
  have f7b := fmod_hi (ixv L 1) (b := 7) (by decide)
  have e6 := ix_tu (L := [4, 3, 5, 2, 4, 1]) (i := (ixv L 0).fmod 6) f6a (by simpa using f6b)
  have m6 : ixv [4, 3, 5, 2, 4, 1] ((ixv L 0).fmod 6) ∈ [4, 3, 5, 2, 4, 1] := ixv_mem f6a (by simpa using f6b)
  generalize ixv [4, 3, 5, 2, 4, 1] ((ixv L 0).fmod 6) = F at e6 m6
  have hF : 0 ≤ F ∧ F ≤ 5 := by
    simp only [List.mem_cons, List.not_mem_nil, or_false] at m6
    rcases m6 with h | h | h | h | h | h <;> omega
  generalize hG : 6 + (ixv L 1).fmod 7 = G
  have hG2 : 0 ≤ G ∧ G ≤ 12 := by omega
  obtain ⟨k1, q1, a1⟩ := v_lots c1 F hF.1 (by omega)
  obtain ⟨k2, q2, a2⟩ := v_drawn_lots c2 G ⟨hG2.1, by omega⟩
  have t1 := v_tells31 F k1 ⟨hF.1, by omega⟩ a1
  have t2 := v_tells31 G k2 ⟨hG2.1, by omega⟩ a2
  simp [g_law_k31, e0, e1, e2, eL, e30, e31, oMod_int, e6, hG, q1, q2, t1, t2]
end LW

set_option Elab.async false
set_option maxRecDepth 100000
set_option linter.all false
set_option maxHeartbeats 2000000
namespace LW
open PySem PySem.Spec PyProof.Rows L2 PD

theorem cutk (ls : List (List Int)) (k : Nat) : oCut (tt ls) none (some (k : Int)) = .ok (tt (ls.take k)) := by
  by_cases h : k ≤ ls.length
  · exact cut_to h
  · show R.ok (PyData.tuple (PD.cutD (ls.map tu) none (some (k : Int)))) = _
    unfold PD.cutD
    rw [HT.sIx_nat, HT.sIx_none, List.length_map, Nat.min_eq_right (by omega), List.drop_zero, Nat.sub_zero, ← List.map_take, List.take_of_length_le (show ls.length ≤ k by omega), List.take_of_length_le (Nat.le_refl _)]
    rfl
theorem cut2 (ls : List (List Int)) : oCut (tt ls) none (some 2) = .ok (tt (ls.take 2)) := cutk ls 2
theorem Good.take {n : Int} {ls : List (List Int)} (g : Good n ls) (k : Nat) (hk : 1 ≤ k) : Good n (ls.take k) :=
  ⟨fun l hl => g.asc l (List.mem_of_mem_take hl), g.asd.sublist (List.take_sublist _ _), fun e => by
    have : ls.length ≠ 0 := fun z => g.ne (List.length_eq_zero_iff.mp z)
    have e2 := congrArg List.length e
    rw [List.length_take, List.length_nil] at e2
    omega, Nat.le_trans (List.take_sublist k ls).length_le g.len⟩
theorem v_drawn_good (c n : Int) (hn : 0 ≤ n ∧ n ≤ 500) : ∃ ks : List (List Int), m_law_drawn_lots [.int c, .int n] = .ok (tt ks) ∧ Good n ks := by
  show ∃ ks : List (List Int), endR (g_law_drawn_lots [some (.d (.int c)), some (.d (.int n)), none, none]) = _ ∧ _
  obtain ⟨L, e1, hL, bL⟩ := v_draws c 7 (by decide) (by decide)
  have hL7 : L.length = 7 := hL
  have e3 := ix_li (L := L) (i := 0) (by decide) (by omega)
  generalize ixv L 0 = d0 at e3
  have b1 := fmod_lo d0 (b := 6) (by decide)
  have b2 := fmod_hi d0 (b := 6) (by decide)
  have e5 := rngA1_ok (n := 1 + d0.fmod 6) (by omega) (by omega)
  obtain ⟨ks, e6, h6, hA, hL⟩ := v_antichain2 ((rangeI 0 (1 + d0.fmod 6)).map fun k => drawnF n (ixv L (1 + k))) (by rw [List.length_map, rangeI_len]; omega)
  rw [List.length_map, rangeI_len] at hL
  have mrow : ∀ r ∈ (rangeI 0 (1 + d0.fmod 6)).map fun k => drawnF n (ixv L (1 + k)), Asc n r := fun r q => by
    obtain ⟨j, hj, rfl⟩ := List.mem_map.mp q
    exact (drawnF_ok _ n hn).2
  have nrow : ((rangeI 0 (1 + d0.fmod 6)).map fun k => drawnF n (ixv L (1 + k))) ≠ [] := fun z => by
    have := congrArg List.length z
    rw [List.length_map, rangeI_len, List.length_nil] at this
    omega
  refine ⟨ks, ?_, ⟨fun k hk => mrow k ((h6 k).mp hk).1, hA, fun z => ?_, by omega⟩⟩
  · simp [g_law_drawn_lots, e1, e3, oMod_int, e5]
    rw [lcR_mem (g := fun k => tu (drawnF n (ixv L (1 + k))))]
    · simp [e6]
    · intro k hk
      obtain ⟨k1, k2⟩ := mem_rangeI.mp hk
      simp [ix_li (L := L) (i := 1 + k) (by omega) (by omega), (drawnF_ok _ n hn).1]
  · obtain ⟨x, x1, x2⟩ := top_some mrow nrow
    have := (h6 x).mpr ⟨x1, x2⟩
    rw [z] at this
    cases this
theorem good_few {n : Int} {ls : List (List Int)} (h0 : 0 ≤ n) (h1 : n ≤ 4) (g : Good n ls) : ls.length ≤ 16 := by
  obtain ⟨rows, _, hr, hl, _⟩ := v_parts2 n h0 (by omega)
  have := nodup_len (ys := rows) g.asd.nodup fun l hl => (hr l).mpr (g.asc l hl)
  have hp : 2 ^ n.toNat ≤ 2 ^ 4 := Nat.pow_le_pow_right (by decide) (by omega)
  omega
/-- what a taker of such a game is -/
structure Tk (n m : Int) (w : Bool) (p : Pl) : Prop where
  good : Good n p.ls
  rows : Rows n m p.C
  one : p.w = 1
  wide : w = true → p.ls.length ≤ 2
theorem v_loop47 (ns L : List Int) (w g : Bool) (T n m : Int) (hL : L.length = 6) (hn : 0 ≤ n ∧ n ≤ 12) (hw : w = false → n ≤ 4) (hT : 0 ≤ T ∧ T ≤ 6) (hm : T ≤ m ∧ m ≤ 7) :
    ∃ (ps : List Pl) (o8 o9 o10 : Option Sl), forGo (.nm 8) b_law_game_k47_1 ((rangeI 0 T).map .int) [some (.d (li ns)), some (.d (li L)), some (.d (.bool w)), some (.d (.int T)), some (.d (.int n)), some (.d (.int m)), some (.d (.bool g)), some (.own []), none, none, none] = .nx [some (.d (li ns)), some (.d (li L)), some (.d (.bool w)), some (.d (.int T)), some (.d (.int n)), some (.d (.int m)), some (.d (.bool g)), some (.own (ps.map (tkD n))), o8, o9, o10] ∧ (ps.length : Int) = T ∧ ∀ p ∈ ps, Tk n m w p := by
  have e34 := ix_li (L := L) (i := 4) (by decide) (by omega)
  obtain ⟨cA, eA⟩ := v_cell ns 1 (by decide)
  obtain ⟨C1, e1, h1⟩ := v_costs cA n m g hn.1 (by omega) (by omega) (by omega)
  have key := forGo_inv (i := 8) (g := b_law_game_k47_1) (enc := PyData.int) (fun xs ρ => ∃ (k : Int) (ps : List Pl) (o8 o9 o10 : Option Sl), ρ = [some (.d (li ns)), some (.d (li L)), some (.d (.bool w)), some (.d (.int T)), some (.d (.int n)), some (.d (.int m)), some (.d (.bool g)), some (.own (ps.map (tkD n))), o8, o9, o10] ∧ xs = rangeI k T ∧ 0 ≤ k ∧ k ≤ T ∧ (ps.length : Int) = k ∧ ∀ p ∈ ps, Tk n m w p) (by
    rintro x xs ρ ⟨k, ps, o8, o9, o10, rfl, hx, k0, k1, hl, hp⟩
    obtain ⟨hk1, rfl, rfl⟩ := rangeI_inv hx
    have hs : ps.length < sizeLine := line_lt (by omega)
    have e2x : oMul (.int 2) (.int x) = .ok (.int (2 * x)) := oMul_l (by decide) (by decide)
    obtain ⟨cB, eB⟩ := v_cell ns (2 + 2 * x) (by omega)
    obtain ⟨cC, eC⟩ := v_cell ns (3 + 2 * x) (by omega)
    obtain ⟨C2, e2, h2⟩ := v_costs cB n m g hn.1 (by omega) (by omega) (by omega)
    obtain ⟨K, e3, g3⟩ := v_drawn_good cC n (by omega)
    have fin : ∀ (C : List (List Int)) (ls : List (List Int)), Rows n m C → Good n ls → (w = true → ls.length ≤ 2) → ∀ p ∈ ps ++ [(⟨ls, C, 1⟩ : Pl)], Tk n m w p := fun C ls hC hls hw2 p hp2 => by
      rcases List.mem_append.mp hp2 with h | h
      · exact hp p h
      · rw [List.mem_singleton.mp h]; exact ⟨hls, hC, rfl, hw2⟩
    have et : ∀ ls C, PyData.tuple [.tuple [.int n, tt ls], tt C] = tkD n ⟨ls, C, 1⟩ := fun _ _ => rfl
    have step : ∀ (C ls : List (List Int)), Rows n m C → Good n ls → (w = true → ls.length ≤ 2) → b_law_game_k47_1 [some (.d (li ns)), some (.d (li L)), some (.d (.bool w)), some (.d (.int T)), some (.d (.int n)), some (.d (.int m)), some (.d (.bool g)), some (.own (ps.map (tkD n))), some (.d (.int x)), o9, o10] = .nx [some (.d (li ns)), some (.d (li L)), some (.d (.bool w)), some (.d (.int T)), some (.d (.int n)), some (.d (.int m)), some (.d (.bool g)), some (.own ((ps ++ [(⟨ls, C, 1⟩ : Pl)]).map (tkD n))), some (.d (.int x)), some (.d (tt C)), some (.d (.int cC))] → ∃ ρ', b_law_game_k47_1 [some (.d (li ns)), some (.d (li L)), some (.d (.bool w)), some (.d (.int T)), some (.d (.int n)), some (.d (.int m)), some (.d (.bool g)), some (.own (ps.map (tkD n))), some (.d (.int x)), o9, o10] = .nx ρ' ∧ ∃ (k : Int) (ps : List Pl) (o8 o9 o10 : Option Sl), ρ' = [some (.d (li ns)), some (.d (li L)), some (.d (.bool w)), some (.d (.int T)), some (.d (.int n)), some (.d (.int m)), some (.d (.bool g)), some (.own (ps.map (tkD n))), o8, o9, o10] ∧ rangeI (x + 1) T = rangeI k T ∧ 0 ≤ k ∧ k ≤ T ∧ (ps.length : Int) = k ∧ ∀ p ∈ ps, Tk n m w p := fun C ls hC hls hw2 e =>
      ⟨_, e, x + 1, _, _, _, _, rfl, rfl, by omega, by omega, by simp; omega, fin C ls hC hls hw2⟩
    show ∃ ρ', b_law_game_k47_1 [some (.d (li ns)), some (.d (li L)), some (.d (.bool w)), some (.d (.int T)), some (.d (.int n)), some (.d (.int m)), some (.d (.bool g)), some (.own (ps.map (tkD n))), some (.d (.int x)), o9, o10] = .nx ρ' ∧ _
    cases hwc : w with
    | true =>
      rw [hwc] at step
      by_cases q : (ixv L 4).fmod 2 = 0
      · exact step C2 (K.take 2) h2 (g3.take 2 (by decide)) (fun _ => List.length_take_le _ _) (by simp [b_law_game_k47_1, eA, e1, e34, oMod_int, q, e2x, eB, e2, eC, e3, cut2, et, hs])
      · exact step C1 (K.take 2) h1 (g3.take 2 (by decide)) (fun _ => List.length_take_le _ _) (by simp [b_law_game_k47_1, eA, e1, e34, oMod_int, q, e2x, eB, e2, eC, e3, cut2, et, hs])
    | false =>
      rw [hwc] at step
      obtain ⟨J, e4, g4⟩ := v_lots2 cC n hn.1 (by have := hw hwc; omega)
      by_cases q : (ixv L 4).fmod 2 = 0
      · exact step C2 J h2 g4 (by simp) (by simp [b_law_game_k47_1, eA, e1, e34, oMod_int, q, e2x, eB, e2, eC, e4, et, hs])
      · exact step C1 J h1 g4 (by simp) (by simp [b_law_game_k47_1, eA, e1, e34, oMod_int, q, e2x, eB, e2, eC, e4, et, hs]))
  obtain ⟨ρ', e, k, ps, o8, o9, o10, rfl, hx, k0, k1, hl, hp⟩ := key (rangeI 0 T) [some (.d (li ns)), some (.d (li L)), some (.d (.bool w)), some (.d (.int T)), some (.d (.int n)), some (.d (.int m)), some (.d (.bool g)), some (.own []), none, none, none] ⟨0, [], none, none, none, rfl, rfl, by omega, hT.1, rfl, by simp⟩
  have ek : k = T := by
    by_cases h : k < T
    · rw [rangeI_cons h] at hx; cases hx
    · omega
  exact ⟨ps, o8, o9, o10, e, by omega, hp⟩
theorem tk_game {n m : Int} {w : Bool} {ps : List Pl} (h0 : 0 ≤ n) (h1 : n ≤ 900) (hm : (ps.length : Int) ≤ m) (h : ∀ p ∈ ps, Tk n m w p) : Game n ps :=
  ⟨⟨h0, h1, fun p hp => (h p hp).good, fun p hp => (h p hp).rows.1, fun p hp r hr => by
    rw [sum_one fun p hp => (h p hp).one, ((h p hp).rows.2 r hr).1]; exact hm, fun p hp => by rw [(h p hp).one]; decide⟩, fun p hp => (h p hp).one, fun p hp r hr => ((h p hp).rows.2 r hr).2⟩
theorem v_game47 (ns : List Int) : ∃ (n : Int) (ps : List Pl) (b : Nat), m_law_game_k47 [li ns] = .ok (gmD n ps) ∧ Game n ps ∧ n ≤ 12 ∧ ps.length ≤ 6 ∧ Few ps b := by
  show ∃ (n : Int) (ps : List Pl) (b : Nat), endR (g_law_game_k47 [some (.d (li ns)), none, none, none, none, none, none, none, none, none, none]) = _ ∧ _
  obtain ⟨c0, e0⟩ := v_cell ns 0 (by decide)
  obtain ⟨L, eL, hL, bL⟩ := v_draws c0 6 (by decide) (by decide)
  have hL2 : L.length = 6 := hL
  have e30 := ix_li (L := L) (i := 0) (by decide) (by omega)
  have e31 := ix_li (L := L) (i := 1) (by decide) (by omega)
  have e32 := ix_li (L := L) (i := 2) (by decide) (by omega)
  have e33 := ix_li (L := L) (i := 3) (by decide) (by omega)
  have e35 := ix_li (L := L) (i := 5) (by decide) (by omega)
  have f8a := fmod_lo (ixv L 0) (b := 8) (by decide)
  have f8b := fmod_hi (ixv L 0) (b := 8) (by decide)
  have e8 := ix_tu (L := [2, 3, 2, 1, 3, 2, 0, 2]) (i := (ixv L 0).fmod 8) f8a (by simpa using f8b)
  have m8 : ixv [2, 3, 2, 1, 3, 2, 0, 2] ((ixv L 0).fmod 8) ∈ [2, 3, 2, 1, 3, 2, 0, 2] := ixv_mem f8a (by simpa using f8b)
  generalize ixv [2, 3, 2, 1, 3, 2, 0, 2] ((ixv L 0).fmod 8) = T at e8 m8
  have hT : 0 ≤ T ∧ T ≤ 3 := by
    simp only [List.mem_cons, List.not_mem_nil, or_false] at m8
    omega
  have g8a := fmod_lo (ixv L 1) (b := 8) (by decide)
  have g8b := fmod_hi (ixv L 1) (b := 8) (by decide)
  have e9 := ix_tu (L := [3, 4, 3, 2, 4, 1, 3, 0]) (i := (ixv L 1).fmod 8) g8a (by simpa using g8b)
  have m9 : ixv [3, 4, 3, 2, 4, 1, 3, 0] ((ixv L 1).fmod 8) ∈ [3, 4, 3, 2, 4, 1, 3, 0] := ixv_mem g8a (by simpa using g8b)
  generalize ixv [3, 4, 3, 2, 4, 1, 3, 0] ((ixv L 1).fmod 8) = n at e9 m9
  have hn : 0 ≤ n ∧ n ≤ 4 := by
    simp only [List.mem_cons, List.not_mem_nil, or_false] at m9
    omega
  have h3a := fmod_lo (ixv L 0) (b := 3) (by decide)
  have h3b := fmod_hi (ixv L 0) (b := 3) (by decide)
  have h7a := fmod_lo (ixv L 1) (b := 7) (by decide)
  have h7b := fmod_hi (ixv L 1) (b := 7) (by decide)
  have h2a := fmod_lo (ixv L 2) (b := 2) (by decide)
  have h2b := fmod_hi (ixv L 2) (b := 2) (by decide)
  generalize hT2 : 4 + (ixv L 0).fmod 3 = T2
  generalize hn2 : 6 + (ixv L 1).fmod 7 = n2
  generalize hu : (ixv L 2).fmod 2 = u at h2a h2b
  by_cases hw : (ixv L 5).fmod 8 = 1
  · obtain ⟨ps, o8, o9, o10, e, hl, hp⟩ := v_loop47 ns L true ((ixv L 3).fmod 8 == 1) T2 n2 (T2 + u) hL2 (by omega) (by simp) (by omega) (by omega)
    refine ⟨n2, ps, 2, ?_, tk_game (by omega) (by omega) (by omega) hp, by omega, by omega, ⟨by decide, fun p h => (hp p h).wide rfl, ?_⟩⟩
    · simp [g_law_game_k47, e0, eL, e30, e31, e32, e33, e35, oMod_int, e8, e9, hw, hT2, hn2, hu, rngA1_ok (n := T2) (by omega) (by omega), e, -List.map_map]
      rfl
    · exact Nat.le_trans (Nat.pow_le_pow_right (n := 2) (by decide) (show ps.length ≤ 6 by omega)) (by decide)
  · have hwf : ((ixv L 5).fmod 8 == 1) = false := by simpa using hw
    obtain ⟨ps, o8, o9, o10, e, hl, hp⟩ := v_loop47 ns L false ((ixv L 3).fmod 8 == 1) T n (T + u) hL2 (by omega) (fun _ => hn.2) (by omega) (by omega)
    refine ⟨n, ps, 16, ?_, tk_game (by omega) (by omega) (by omega) hp, by omega, by omega, ⟨by decide, fun p h => good_few hn.1 hn.2 (hp p h).good, ?_⟩⟩
    · simp [g_law_game_k47, e0, eL, e30, e31, e32, e33, e35, oMod_int, e8, e9, hw, hwf, hu, rngA1_ok (n := T) (by omega) (by omega), e, -List.map_map]
      rfl
    · exact Nat.le_trans (Nat.pow_le_pow_right (n := 16) (by decide) (show ps.length ≤ 3 by omega)) (by decide)
end LW

set_option Elab.async false
set_option maxRecDepth 100000
set_option linter.all false
set_option maxHeartbeats 2000000
namespace LW
open PySem PySem.Spec PyProof.Rows L2 PD

def totD (ps : List Pl) (ch : List (List Int)) : Int := ((rangeI 0 ps.length).map (payD ps ch)).sum
theorem v_total (n : Int) (ps : List Pl) (ch : List (List Int)) (G : Game n ps) (c : Chs ps ch) (hz : ps.length ≤ 800) : m_total [gmD n ps, tt ch] = .ok (.int (totD ps ch)) := by
  show endR (g_total [some (.d (gmD n ps)), some (.d (tt ch)), none]) = _
  simp [g_total, len_gm, rngA1_ok (n := ps.length) (by omega) (by omega)]
  rw [lcR_mem (g := fun i => PyData.int (payD ps ch i))]
  · have := bSum_li ((rangeI 0 ps.length).map (payD ps ch))
    simp [totD]
  · intro i hi
    obtain ⟨i0, i1⟩ := mem_rangeI.mp hi
    simp [v_pay n ps ch i G c i0 i1]
theorem addC_ne {cs : List (List (List Int))} {ls : List (List Int)} (h : cs ≠ []) (k : ls ≠ []) : addC cs ls ≠ [] := fun e => by
  have := congrArg List.length e
  rw [addC_len, List.length_nil] at this
  have a := List.length_pos_iff.mpr h
  have b := List.length_pos_iff.mpr k
  have := Nat.mul_pos a b
  omega
theorem foldC_ne : ∀ {qs : List Pl} {cs : List (List (List Int))}, cs ≠ [] → (∀ q ∈ qs, q.ls ≠ []) → foldC qs cs ≠ []
  | [], _, h, _ => h
  | q :: qs, cs, h, k => foldC_ne (qs := qs) (addC_ne h (k q List.mem_cons_self)) fun y hy => k y (List.mem_cons_of_mem _ hy)
theorem allC_ne {n : Int} {ps : List Pl} (P : Play n ps) : allC ps ≠ [] := foldC_ne (by simp) fun p hp => (P.good p hp).ne
def leastT (ps : List Pl) : Int := minI ((allC ps).map (totD ps))
theorem v_least_total (n : Int) (ps : List Pl) (b : Nat) (G : Game n ps) (f : Few ps b) (hz : ps.length ≤ 800) : m_least_total [gmD n ps] = .ok (.int (leastT ps)) := by
  show endR (g_least_total [some (.d (gmD n ps)), none]) = _
  have e1 := v_choices n ps b G f hz
  have e := lc_of (enc := tt) (fi := dItems (dArg m_choices (dCons (dVar 0) dNil))) (t := .nm 1) (ft := dYes) (fe := dArg m_total (dCons (dVar 0) (dCons (dVar 1) dNil))) (vs := [1]) (ρ := [some (.d (gmD n ps)), none]) (xs := allC ps) (st := fun c => [some (.d (gmD n ps)), some (.d (tt c))]) (q := fun _ => true) (g := fun c => PyData.int (totD ps c)) (by simp [e1, -List.map_map]) fun c hc => ⟨rfl, rfl, fun _ => by simp [v_total n ps c G (allC_chs hc) hz]⟩
  rw [List.filter_eq_self.mpr (fun _ _ => rfl)] at e
  have e2 : PyData.list ((allC ps).map fun c => PyData.int (totD ps c)) = li ((allC ps).map (totD ps)) := by
    show _ = PyData.list (((allC ps).map (totD ps)).map PyData.int)
    rw [List.map_map]; rfl
  rw [e2] at e
  have e3 := bMin_li (l := (allC ps).map (totD ps)) (by simpa using allC_ne G.toPlay)
  unfold g_least_total
  simp [-ev_lc]
  rw [e]
  simp [e3, leastT, -List.map_map]
theorem rangeI_snoc {i : Int} (h : 0 ≤ i) : rangeI 0 (i + 1) = rangeI 0 i ++ [i] := by
  unfold rangeI
  rw [show (i + 1 - 0).toNat = (i - 0).toNat + 1 by omega, List.range_succ, List.map_append, List.map_singleton]
  congr 2
  omega
theorem v_law_total (n : Int) (ps : List Pl) (ch : List (List Int)) (G : Game n ps) (c : Chs ps ch) (hz : ps.length ≤ 800) : m_law_total [gmD n ps, tt ch] = .ok (.int (totD ps ch)) := by
  show endR (g_law_total [some (.d (gmD n ps)), some (.d (tt ch)), none, none, none, none]) = _
  by_cases h0 : ps = []
  · subst h0
    have e0 : bLen [gmD n []] = .ok (.int 0) := rfl
    have et : totD [] ch = 0 := rfl
    simp [g_law_total, e0, et]
  have hp : 0 < ps.length := List.length_pos_iff.mpr h0
  have g : (0 : Int) < (ps.length : Int) := by omega
  have gn : ¬ ps.length = 0 := by omega
  have el := v_law_loads ch n G.n0 G.n1
  generalize hLd : li ((rangeI 0 n).map (load ch)) = Ld at el
  have eld : ∀ x, 0 ≤ x → x < n → oIx Ld (.int x) = .ok (.int (load ch x)) := fun x x0 x1 => by
    rw [← hLd, ix_li x0 (by rw [List.length_map, rangeI_len]; omega), ixv_map x0 (by rw [rangeI_len]; omega), ixv_range x0 x1]
  have key := forGo_inv (i := 4) (g := b_law_total_2) (enc := PyData.int) (fun xs ρ => ∃ (k : Int) (o4 o5 : Option Sl), ρ = [some (.d (gmD n ps)), some (.d (tt ch)), some (.d Ld), some (.d (.int ((rangeI 0 k).map (payD ps ch)).sum)), o4, o5] ∧ xs = rangeI k ps.length ∧ 0 ≤ k ∧ k ≤ ps.length) (by
    rintro i xs ρ ⟨k, o4, o5, rfl, hx, k0, k1⟩
    obtain ⟨hk1, rfl, rfl⟩ := rangeI_inv hx
    have hm := plx_mem k0 hk1
    have a := chs_asc G.toPlay c k0 hk1
    have hr := G.rows _ hm
    have inner := forGo_inv (i := 5) (g := b_law_total_1) (enc := PyData.int) (fun ys ρ => ∃ (dn : List Int) (o5 : Option Sl), ρ = [some (.d (gmD n ps)), some (.d (tt ch)), some (.d Ld), some (.d (.int (((rangeI 0 i).map (payD ps ch)).sum + (dn.map fun x => cost (plx ps i).C x (wl ps ch x)).sum))), some (.d (.int i)), o5] ∧ dn ++ ys = ixr ch i) (by
      rintro x ys ρ ⟨dn, o5, rfl, hd⟩
      have hxm : x ∈ ixr ch i := by rw [← hd]; simp
      obtain ⟨x0, x1⟩ := a.2 x hxm
      have see := wl_see G.toPlay c k0 hk1 x
      rw [if_pos hxm, Int.add_zero] at see
      have rl := G.room _ hm (ixr (plx ps i).C x) (ixr_mem x0 (by omega))
      have e3 := eld x x0 x1
      rw [← wl_load G.one c.len] at e3
      refine ⟨[some (.d (gmD n ps)), some (.d (tt ch)), some (.d Ld), some (.d (.int (((rangeI 0 i).map (payD ps ch)).sum + ((dn ++ [x]).map fun x => cost (plx ps i).C x (wl ps ch x)).sum))), some (.d (.int i)), some (.d (.int x))], ?_, dn ++ [x], _, rfl, by rw [List.append_assoc]; exact hd⟩
      rw [List.map_append, List.sum_append, List.map_singleton, List.sum_singleton, ← Int.add_assoc]
      simp [b_law_total_1, ix_tk (n := n) k0 hk1, tk_p1, ix_tt (L := (plx ps i).C) x0 (by omega), e3, ix_tu (L := ixr (plx ps i).C x) (i := wl ps ch x - 1) (by omega) (by omega), cost])
    obtain ⟨ρ', e, dn, o5', rfl, hd⟩ := inner (ixr ch i) [some (.d (gmD n ps)), some (.d (tt ch)), some (.d Ld), some (.d (.int ((rangeI 0 i).map (payD ps ch)).sum)), some (.d (.int i)), o5] ⟨[], o5, by simp, rfl⟩
    rw [List.append_nil] at hd
    refine ⟨[some (.d (gmD n ps)), some (.d (tt ch)), some (.d Ld), some (.d (.int ((rangeI 0 (i + 1)).map (payD ps ch)).sum)), some (.d (.int i)), o5'], ?_, i + 1, _, _, rfl, rfl, by omega, by omega⟩
    rw [rangeI_snoc k0, List.map_append, List.sum_append, List.map_singleton, List.sum_singleton]
    rw [hd] at e
    have ep : ((ixr ch i).map fun x => cost (plx ps i).C x (wl ps ch x)).sum = payD ps ch i := rfl
    rw [ep] at e
    simp [b_law_total_2, ix_tt (L := ch) k0 (by rw [c.len]; exact hk1), e])
  obtain ⟨ρ', e, k, o4, o5, rfl, hx, k0, k1⟩ := key (rangeI 0 ps.length) [some (.d (gmD n ps)), some (.d (tt ch)), some (.d Ld), some (.d (.int 0)), none, none] ⟨0, none, none, rfl, rfl, by omega, by omega⟩
  have ek : k = ps.length := by
    by_cases h : k < ps.length
    · rw [rangeI_cons h] at hx; cases hx
    · omega
  subst ek
  simp [g_law_total, len_gm, h0, ix_tk (n := n) (by decide) g, tk_p0, of_p0, el, rngA1_ok (n := ps.length) (by omega) (by omega), e, totD]
end LW

set_option Elab.async false
set_option maxRecDepth 100000
set_option linter.all false
set_option maxHeartbeats 2000000
namespace LW
open PySem PySem.Spec PyProof.Rows L2 PD

theorem oAdd_lch {a b : List (List (List Int))} (h : a.length + b.length ≤ 100000) : oAdd (lch a) (lch b) = .ok (lch (a ++ b)) := by
  have e : oAdd (.list (a.map tt)) (.list (b.map tt)) = .ok (.list (a.map tt ++ b.map tt)) := if_pos (by rw [List.length_map, List.length_map, sizeLine_eq]; omega)
  rw [← List.map_append] at e
  exact e
theorem v_law_choices_k47 (n : Int) (ps : List Pl) (b : Nat) (f : Few ps b) (hz : ps.length ≤ 800) : m_law_choices_k47 [gmD n ps] = .ok (lch (allC ps)) := by
  show endR (g_law_choices_k47 [some (.d (gmD n ps)), none, none, none, none, none]) = _
  have ei : items (gmD n ps) = .ok (ps.map (tkD n)) := rfl
  generalize gmD n ps = Pd at ei
  have key := forGo_inv (i := 2) (g := b_law_choices_k47_2) (enc := tkD n) (fun xs ρ => ∃ (cs : List (List (List Int))) (o2 o3 o4 : Option Sl), ρ = [some (.d Pd), some (.d (lch cs)), o2, o3, o4, none] ∧ foldC xs cs = allC ps ∧ cs.length * b ^ xs.length ≤ 5000 ∧ (∀ p ∈ xs, p.ls.length ≤ b) ∧ ∀ c ∈ cs, c.length + xs.length ≤ 800) (by
    rintro p xs ρ ⟨cs, o2, o3, o4, rfl, hf, hl, hb, hc⟩
    have hn := step_len f.pos (hb p List.mem_cons_self) (k := xs.length) (by simpa using hl)
    have hN := few_now f.pos hn
    have inner := forGo_inv (i := 4) (g := b_law_choices_k47_1) (enc := tt) (fun zs ρ => ∃ (done : List (List (List Int))) (o4 : Option Sl), ρ = [some (.d Pd), some (.d (lch cs)), some (.d (tkD n p)), some (.d (lch (addC done p.ls))), o4, none] ∧ done ++ zs = cs) (by
      rintro c zs ρ ⟨done, o4, rfl, hd⟩
      have hcm : c ∈ cs := by rw [← hd]; simp
      have hcl := hc c hcm
      have hdl : (addC done p.ls).length + p.ls.length ≤ 5000 := by
        have : (addC cs p.ls).length = (addC done p.ls).length + (addC (c :: zs) p.ls).length := by rw [← hd, addC_app, List.length_append]
        have h3 : (addC (c :: zs) p.ls).length = (zs.length + 1) * p.ls.length := by rw [addC_len, List.length_cons]
        rw [Nat.add_mul, Nat.one_mul] at h3
        omega
      have r := lc_of (enc := tu) (fi := dItems (dTwo oIx (dTwo oIx (dVar 2) (dC (.int 0))) (dC (.int 1)))) (t := .nm 5) (ft := dYes) (fe := dTwo oAdd (dVar 4) (dTup (dCons (dVar 5) dNil))) (vs := [5]) (ρ := [some (.d Pd), some (.d (lch cs)), some (.d (tkD n p)), some (.d (lch (addC done p.ls))), some (.d (tt c)), none]) (xs := p.ls) (st := fun l => [some (.d Pd), some (.d (lch cs)), some (.d (tkD n p)), some (.d (lch (addC done p.ls))), some (.d (tt c)), some (.d (tu l))]) (q := fun _ => true) (g := fun l => tt (c ++ [l])) (by simp [tk_p0, of_p1]) (fun l hl => ⟨rfl, rfl, fun _ => by simp [snoc_ok (show c.length ≤ 900 by omega)]⟩)
      rw [List.filter_eq_self.mpr (fun _ _ => rfl)] at r
      have e2 : PyData.list (p.ls.map fun l => tt (c ++ [l])) = lch (p.ls.map fun l => c ++ [l]) := by
        show _ = PyData.list ((p.ls.map fun l => c ++ [l]).map tt)
        rw [List.map_map]; rfl
      rw [e2] at r
      refine ⟨[some (.d Pd), some (.d (lch cs)), some (.d (tkD n p)), some (.d (lch (addC done p.ls ++ p.ls.map fun l => c ++ [l]))), some (.d (tt c)), none], ?_, done ++ [c], _, by rw [addC_app, addC_1], by rw [List.append_assoc]; exact hd⟩
      have ea := oAdd_lch (a := addC done p.ls) (b := p.ls.map fun l => c ++ [l]) (by rw [List.length_map]; omega)
      show b_law_choices_k47_1 [some (.d Pd), some (.d (lch cs)), some (.d (tkD n p)), some (.d (lch (addC done p.ls))), some (.d (tt c)), none] = _
      unfold b_law_choices_k47_1
      simp [-ev_lc, -List.map_map]
      rw [r]
      simp [ea, -List.map_map])
    obtain ⟨ρ', e, done, o4', rfl, hd⟩ := inner cs [some (.d Pd), some (.d (lch cs)), some (.d (tkD n p)), some (.d (lch [])), o4, none] ⟨[], o4, rfl, rfl⟩
    rw [List.append_nil] at hd
    subst hd
    refine ⟨[some (.d Pd), some (.d (lch (addC done p.ls))), some (.d (tkD n p)), some (.d (lch (addC done p.ls))), o4', none], ?_, _, _, _, _, rfl, hf, hn, fun q hq => hb q (List.mem_cons_of_mem _ hq), fun c hc2 => ?_⟩
    · have el : PyData.list [] = lch [] := rfl
      simp [b_law_choices_k47_2, items_lch, el, e, -List.map_map]
    · obtain ⟨c', h1, h2⟩ := List.mem_flatMap.mp hc2
      obtain ⟨l, _, rfl⟩ := List.mem_map.mp h2
      have := hc c' h1
      simp at this ⊢
      omega)
  obtain ⟨ρ', e, cs, o2, o3, o4, rfl, hf, _, _⟩ := key ps [some (.d Pd), some (.d (lch [[]])), none, none, none, none] ⟨[[]], none, none, none, rfl, rfl, by rw [List.length_singleton, Nat.one_mul]; exact f.all, f.each, fun c hc => by rw [List.mem_singleton.mp hc]; simpa using hz⟩
  have hf : cs = allC ps := hf
  subst hf
  have el : lt [[]] = lch [[]] := rfl
  simp [g_law_choices_k47, el, ei, e, -List.map_map]
theorem leastT_le {n : Int} {ps : List Pl} {c : List (List Int)} (h : c ∈ allC ps) : leastT ps ≤ totD ps c := minI_le (List.mem_map.mpr ⟨c, h, rfl⟩)
/-- a choice is one of all -/
theorem chs_all : ∀ {ps : List Pl} {c : List (List Int)}, c.length = ps.length → (∀ z ∈ ps.zip c, z.2 ∈ z.1.ls) → ∀ {d : List (List Int)} {ds : List (List (List Int))}, d ∈ ds → d ++ c ∈ foldC ps ds
  | [], [], _, _, d, ds, h => by rw [List.append_nil]; exact h
  | p :: ps, l :: c, hl, hz, d, ds, h => by
    have := chs_all (ps := ps) (c := c) (by simpa using hl) (fun z q => hz z (List.mem_cons_of_mem _ q)) (d := d ++ [l]) (ds := addC ds p.ls) (List.mem_flatMap.mpr ⟨d, h, List.mem_map.mpr ⟨l, hz (p, l) List.mem_cons_self, rfl⟩⟩)
    rwa [List.append_assoc] at this
theorem chs_in {ps : List Pl} {c : List (List Int)} (h : Chs ps c) : c ∈ allC ps := by
  have := chs_all (ps := ps) (c := c) h.len (fun z hz => by
    obtain ⟨j, hj, e⟩ := List.getElem_of_mem hz
    rw [List.getElem_zip] at e
    rw [List.length_zip, h.len, Nat.min_self] at hj
    have m := h.mem j (by omega) (by omega)
    have e1 : ixr c j = z.2 := by
      unfold ixr; rw [show ((j : Int)).toNat = j by omega, List.getElem?_eq_getElem (by rw [h.len]; exact hj), ← e]; rfl
    have e2 : plx ps j = z.1 := by
      unfold plx; rw [show ((j : Int)).toNat = j by omega, List.getElem?_eq_getElem hj, ← e]; rfl
    rwa [e1, e2] at m) (d := []) (ds := [[]]) (by simp)
  rw [List.nil_append] at this
  exact this
theorem main_k47 (ns : List Int) (hn : ns.length ≤ 63) : m_law_k47 [.list (ns.map .int)] = .ok (.bool true) := by
  show endR (g_law_k47 [some (.d (li ns)), none, none, none, none, none, none]) = _
  obtain ⟨n, ps, b, e1, G, hn12, hp6, f⟩ := v_game47 ns
  obtain ⟨c14, e14⟩ := v_cell ns 14 (by decide)
  obtain ⟨c15, e15⟩ := v_cell ns 15 (by decide)
  obtain ⟨ch, e2, c⟩ := v_choice c14 n ps G.toPlay (by omega)
  obtain ⟨ch2, e3, d⟩ := v_choice c15 n ps G.toPlay (by omega)
  have hz : ps.length ≤ 800 := by omega
  have e4 := v_least_total n ps b G f hz
  have e5 := v_law_choices_k47 n ps b f hz
  have key := forGo_inv (i := 5) (g := b_law_k47_1) (enc := tt) (fun xs ρ => ∃ (o5 o6 : Option Sl), ρ = [some (.d (li ns)), some (.d (gmD n ps)), some (.d (tt ch)), some (.d (tt ch2)), some (.d (.int (leastT ps))), o5, o6] ∧ ∀ x ∈ xs, Chs ps x) (by
    rintro x xs ρ ⟨o5, o6, rfl, hx⟩
    have hc := hx x List.mem_cons_self
    have hle : ¬ totD ps x < leastT ps := by have := leastT_le (n := n) (chs_in hc); omega
    refine ⟨[some (.d (li ns)), some (.d (gmD n ps)), some (.d (tt ch)), some (.d (tt ch2)), some (.d (.int (leastT ps))), some (.d (tt x)), some (.d (.int (totD ps x)))], ?_, _, _, rfl, fun y hy => hx y (List.mem_cons_of_mem _ hy)⟩
    simp [b_law_k47_1, v_total n ps x G hc hz, v_law_total n ps x G hc hz, v_integer, hle])
  obtain ⟨ρ', e, o5, o6, rfl, _⟩ := key [ch, ch2, ch] [some (.d (li ns)), some (.d (gmD n ps)), some (.d (tt ch)), some (.d (tt ch2)), some (.d (.int (leastT ps))), none, none] ⟨none, none, rfl, fun x hx => by
    simp only [List.mem_cons, List.not_mem_nil, or_false] at hx
    rcases hx with rfl | rfl | rfl
    · exact c
    · exact d
    · exact c⟩
  have e : forGo (.nm 5) b_law_k47_1 [tt ch, tt ch2, tt ch] _ = _ := e
  have l3 : lstR [tt ch, tt ch2, tt ch] = .ok (.list [tt ch, tt ch2, tt ch]) := lstR_ok (by show 3 ≤ 100000; decide)
  have r := lc_of (enc := tt) (fi := dItems (dArg m_law_choices_k47 (dCons (dVar 1) dNil))) (t := .nm 5) (ft := dYes) (fe := dArg m_law_total (dCons (dVar 1) (dCons (dVar 5) dNil))) (vs := [5]) (ρ := [some (.d (li ns)), some (.d (gmD n ps)), some (.d (tt ch)), some (.d (tt ch2)), some (.d (.int (leastT ps))), none, none]) (xs := allC ps) (st := fun x => [some (.d (li ns)), some (.d (gmD n ps)), some (.d (tt ch)), some (.d (tt ch2)), some (.d (.int (leastT ps))), some (.d (tt x)), none]) (q := fun _ => true) (g := fun c => PyData.int (totD ps c)) (by simp [e5, items_lch, -List.map_map]) fun x hc => ⟨rfl, rfl, fun _ => by simp [v_law_total n ps x G (allC_chs hc) hz]⟩
  rw [List.filter_eq_self.mpr (fun _ _ => rfl)] at r
  have r2 : PyData.list ((allC ps).map fun c => PyData.int (totD ps c)) = li ((allC ps).map (totD ps)) := by
    show _ = PyData.list (((allC ps).map (totD ps)).map PyData.int)
    rw [List.map_map]; rfl
  rw [r2] at r
  have r3 := bMin_li (l := (allC ps).map (totD ps)) (by simpa using allC_ne G.toPlay)
  unfold g_law_k47
  simp [e1, e14, e15, e2, e3, e4, v_integer, -ev_lc]
  rw [r]
  have r4 : minI ((allC ps).map (totD ps)) = leastT ps := rfl
  rw [r4] at r3
  simp [r3, l3, e, e4, -List.map_map]
end LW

set_option Elab.async false
set_option linter.all false
set_option maxRecDepth 100000
set_option maxHeartbeats 4000000
namespace LW
open PySem PySem.Spec PyProof.Rows L2 PD
theorem all_mk {l : PySem.W.OpenLaw} {w : World} {K : PySem.W.Frag} {h : Heap} {mg : Str → Option Value} {fa : Addr} (X : K.In h) (G : h.Ns mainGlobals mg) (hfa : mg "law" = some (.ref fa))
    {f1 f2 f3 f4 f5 f6 f7 f8 f9 f10 f11 f12 f13 f14 f15 f16 f17 f18 f19 f20 f21 f22 f23 f24 f25 f26 f27 f28 f29 f30 f31 : Addr} {od1 an1 od2 an2 od3 an3 od4 an4 od5 an5 od6 an6 od7 an7 od8 an8 od9 an9 od10 an10 od11 an11 od12 an12 od13 an13 od14 an14 od15 an15 od16 an16 od17 an17 od18 an18 od19 an19 od20 an20 od21 an21 od22 an22 od23 an23 od24 an24 od25 an25 od26 an26 od27 an27 od28 an28 od29 an29 od30 an30 od31 an31 : Option Addr} {sl1 sl2 sl3 sl4 sl5 sl6 sl7 sl8 sl9 sl10 sl11 sl12 sl13 sl14 sl15 sl16 sl17 sl18 sl19 sl20 sl21 sl22 sl23 sl24 sl25 sl26 sl27 sl28 sl29 sl30 sl31 : Array (Option Value)} {oc1 kV1 dc1 pm1 ct1 cd1 oc2 kV2 dc2 pm2 ct2 cd2 oc3 kV3 dc3 pm3 ct3 cd3 oc4 kV4 dc4 pm4 ct4 cd4 oc5 kV5 dc5 pm5 ct5 cd5 oc6 kV6 dc6 pm6 ct6 cd6 oc7 kV7 dc7 pm7 ct7 cd7 oc8 kV8 dc8 pm8 ct8 cd8 oc9 kV9 dc9 pm9 ct9 cd9 oc10 kV10 dc10 pm10 ct10 cd10 oc11 kV11 dc11 pm11 ct11 cd11 oc12 kV12 dc12 pm12 ct12 cd12 oc13 kV13 dc13 pm13 ct13 cd13 oc14 kV14 dc14 pm14 ct14 cd14 oc15 kV15 dc15 pm15 ct15 cd15 oc16 kV16 dc16 pm16 ct16 cd16 oc17 kV17 dc17 pm17 ct17 cd17 oc18 kV18 dc18 pm18 ct18 cd18 oc19 kV19 dc19 pm19 ct19 cd19 oc20 kV20 dc20 pm20 ct20 cd20 oc21 kV21 dc21 pm21 ct21 cd21 oc22 kV22 dc22 pm22 ct22 cd22 oc23 kV23 dc23 pm23 ct23 cd23 oc24 kV24 dc24 pm24 ct24 cd24 oc25 kV25 dc25 pm25 ct25 cd25 oc26 kV26 dc26 pm26 ct26 cd26 oc27 kV27 dc27 pm27 ct27 cd27 oc28 kV28 dc28 pm28 ct28 cd28 oc29 kV29 dc29 pm29 ct29 cd29 oc30 kV30 dc30 pm30 ct30 cd30 oc31 kV31 dc31 pm31 ct31 cd31 : Value}
    (a1 : PySem.W.nsIn K mainGlobals "_law_draws" = some (some (.ref f1))) (l1 : K.lookup f1 = some ⟨oc1, od1, .func (PySem.W.fnOf "_law_draws" "_law_draws" (defArgs s_law_draws) (defBody s_law_draws) (defScope s_law_draws) .none kV1 dc1 pm1 an1 cd1 ct1), sl1⟩) (c1 : PySem.W.codeIn K cd1 "_law_draws" = true) (k1 : PySem.W.keepIn K (.ref f1) = true)
    (a2 : PySem.W.nsIn K mainGlobals "_law_cell" = some (some (.ref f2))) (l2 : K.lookup f2 = some ⟨oc2, od2, .func (PySem.W.fnOf "_law_cell" "_law_cell" (defArgs s_law_cell) (defBody s_law_cell) (defScope s_law_cell) .none kV2 dc2 pm2 an2 cd2 ct2), sl2⟩) (c2 : PySem.W.codeIn K cd2 "_law_cell" = true) (k2 : PySem.W.keepIn K (.ref f2) = true)
    (a3 : PySem.W.nsIn K mainGlobals "_law_costs" = some (some (.ref f3))) (l3 : K.lookup f3 = some ⟨oc3, od3, .func (PySem.W.fnOf "_law_costs" "_law_costs" (defArgs s_law_costs) (defBody s_law_costs) (defScope s_law_costs) .none kV3 dc3 pm3 an3 cd3 ct3), sl3⟩) (c3 : PySem.W.codeIn K cd3 "_law_costs" = true) (k3 : PySem.W.keepIn K (.ref f3) = true)
    (a4 : PySem.W.nsIn K mainGlobals "_law_parts_of" = some (some (.ref f4))) (l4 : K.lookup f4 = some ⟨oc4, od4, .func (PySem.W.fnOf "_law_parts_of" "_law_parts_of" (defArgs s_law_parts_of) (defBody s_law_parts_of) (defScope s_law_parts_of) .none kV4 dc4 pm4 an4 cd4 ct4), sl4⟩) (c4 : PySem.W.codeIn K cd4 "_law_parts_of" = true) (k4 : PySem.W.keepIn K (.ref f4) = true)
    (a5 : PySem.W.nsIn K mainGlobals "_law_within" = some (some (.ref f5))) (l5 : K.lookup f5 = some ⟨oc5, od5, .func (PySem.W.fnOf "_law_within" "_law_within" (defArgs s_law_within) (defBody s_law_within) (defScope s_law_within) .none kV5 dc5 pm5 an5 cd5 ct5), sl5⟩) (c5 : PySem.W.codeIn K cd5 "_law_within" = true) (k5 : PySem.W.keepIn K (.ref f5) = true)
    (a6 : PySem.W.nsIn K mainGlobals "_law_antichain" = some (some (.ref f6))) (l6 : K.lookup f6 = some ⟨oc6, od6, .func (PySem.W.fnOf "_law_antichain" "_law_antichain" (defArgs s_law_antichain) (defBody s_law_antichain) (defScope s_law_antichain) .none kV6 dc6 pm6 an6 cd6 ct6), sl6⟩) (c6 : PySem.W.codeIn K cd6 "_law_antichain" = true) (k6 : PySem.W.keepIn K (.ref f6) = true)
    (a7 : PySem.W.nsIn K mainGlobals "_law_any_lots" = some (some (.ref f7))) (l7 : K.lookup f7 = some ⟨oc7, od7, .func (PySem.W.fnOf "_law_any_lots" "_law_any_lots" (defArgs s_law_any_lots) (defBody s_law_any_lots) (defScope s_law_any_lots) .none kV7 dc7 pm7 an7 cd7 ct7), sl7⟩) (c7 : PySem.W.codeIn K cd7 "_law_any_lots" = true) (k7 : PySem.W.keepIn K (.ref f7) = true)
    (a8 : PySem.W.nsIn K mainGlobals "_law_rest" = some (some (.ref f8))) (l8 : K.lookup f8 = some ⟨oc8, od8, .func (PySem.W.fnOf "_law_rest" "_law_rest" (defArgs s_law_rest) (defBody s_law_rest) (defScope s_law_rest) .none kV8 dc8 pm8 an8 cd8 ct8), sl8⟩) (c8 : PySem.W.codeIn K cd8 "_law_rest" = true) (k8 : PySem.W.keepIn K (.ref f8) = true)
    (a9 : PySem.W.nsIn K mainGlobals "_law_count" = some (some (.ref f9))) (l9 : K.lookup f9 = some ⟨oc9, od9, .func (PySem.W.fnOf "_law_count" "_law_count" (defArgs s_law_count) (defBody s_law_count) (defScope s_law_count) .none kV9 dc9 pm9 an9 cd9 ct9), sl9⟩) (c9 : PySem.W.codeIn K cd9 "_law_count" = true) (k9 : PySem.W.keepIn K (.ref f9) = true)
    (a10 : PySem.W.nsIn K mainGlobals "_law_smooth_lots" = some (some (.ref f10))) (l10 : K.lookup f10 = some ⟨oc10, od10, .func (PySem.W.fnOf "_law_smooth_lots" "_law_smooth_lots" (defArgs s_law_smooth_lots) (defBody s_law_smooth_lots) (defScope s_law_smooth_lots) .none kV10 dc10 pm10 an10 cd10 ct10), sl10⟩) (c10 : PySem.W.codeIn K cd10 "_law_smooth_lots" = true) (k10 : PySem.W.keepIn K (.ref f10) = true)
    (a11 : PySem.W.nsIn K mainGlobals "_law_lots" = some (some (.ref f11))) (l11 : K.lookup f11 = some ⟨oc11, od11, .func (PySem.W.fnOf "_law_lots" "_law_lots" (defArgs s_law_lots) (defBody s_law_lots) (defScope s_law_lots) .none kV11 dc11 pm11 an11 cd11 ct11), sl11⟩) (c11 : PySem.W.codeIn K cd11 "_law_lots" = true) (k11 : PySem.W.keepIn K (.ref f11) = true)
    (a12 : PySem.W.nsIn K mainGlobals "_law_drawn_set" = some (some (.ref f12))) (l12 : K.lookup f12 = some ⟨oc12, od12, .func (PySem.W.fnOf "_law_drawn_set" "_law_drawn_set" (defArgs s_law_drawn_set) (defBody s_law_drawn_set) (defScope s_law_drawn_set) .none kV12 dc12 pm12 an12 cd12 ct12), sl12⟩) (c12 : PySem.W.codeIn K cd12 "_law_drawn_set" = true) (k12 : PySem.W.keepIn K (.ref f12) = true)
    (a13 : PySem.W.nsIn K mainGlobals "_law_drawn_lots" = some (some (.ref f13))) (l13 : K.lookup f13 = some ⟨oc13, od13, .func (PySem.W.fnOf "_law_drawn_lots" "_law_drawn_lots" (defArgs s_law_drawn_lots) (defBody s_law_drawn_lots) (defScope s_law_drawn_lots) .none kV13 dc13 pm13 an13 cd13 ct13), sl13⟩) (c13 : PySem.W.codeIn K cd13 "_law_drawn_lots" = true) (k13 : PySem.W.keepIn K (.ref f13) = true)
    (a14 : PySem.W.nsIn K mainGlobals "_law_game" = some (some (.ref f14))) (l14 : K.lookup f14 = some ⟨oc14, od14, .func (PySem.W.fnOf "_law_game" "_law_game" (defArgs s_law_game) (defBody s_law_game) (defScope s_law_game) .none kV14 dc14 pm14 an14 cd14 ct14), sl14⟩) (c14 : PySem.W.codeIn K cd14 "_law_game" = true) (k14 : PySem.W.keepIn K (.ref f14) = true)
    (a15 : PySem.W.nsIn K mainGlobals "_law_choice" = some (some (.ref f15))) (l15 : K.lookup f15 = some ⟨oc15, od15, .func (PySem.W.fnOf "_law_choice" "_law_choice" (defArgs s_law_choice) (defBody s_law_choice) (defScope s_law_choice) .none kV15 dc15 pm15 an15 cd15 ct15), sl15⟩) (c15 : PySem.W.codeIn K cd15 "_law_choice" = true) (k15 : PySem.W.keepIn K (.ref f15) = true)
    (a16 : PySem.W.nsIn K mainGlobals "price" = some (some (.ref f16))) (l16 : K.lookup f16 = some ⟨oc16, od16, .func (PySem.W.fnOf "price" "price" (defArgs s_price) (defBody s_price) (defScope s_price) .none kV16 dc16 pm16 an16 cd16 ct16), sl16⟩) (c16 : PySem.W.codeIn K cd16 "price" = true) (k16 : PySem.W.keepIn K (.ref f16) = true)
    (a17 : PySem.W.nsIn K mainGlobals "count_loads" = some (some (.ref f17))) (l17 : K.lookup f17 = some ⟨oc17, od17, .func (PySem.W.fnOf "count_loads" "count_loads" (defArgs s_count_loads) (defBody s_count_loads) (defScope s_count_loads) .none kV17 dc17 pm17 an17 cd17 ct17), sl17⟩) (c17 : PySem.W.codeIn K cd17 "count_loads" = true) (k17 : PySem.W.keepIn K (.ref f17) = true)
    (a18 : PySem.W.nsIn K mainGlobals "cost_at" = some (some (.ref f18))) (l18 : K.lookup f18 = some ⟨oc18, od18, .func (PySem.W.fnOf "cost_at" "cost_at" (defArgs s_cost_at) (defBody s_cost_at) (defScope s_cost_at) .none kV18 dc18 pm18 an18 cd18 ct18), sl18⟩) (c18 : PySem.W.codeIn K cd18 "cost_at" = true) (k18 : PySem.W.keepIn K (.ref f18) = true)
    (a19 : PySem.W.nsIn K mainGlobals "prices_for" = some (some (.ref f19))) (l19 : K.lookup f19 = some ⟨oc19, od19, .func (PySem.W.fnOf "prices_for" "prices_for" (defArgs s_prices_for) (defBody s_prices_for) (defScope s_prices_for) .none kV19 dc19 pm19 an19 cd19 ct19), sl19⟩) (c19 : PySem.W.codeIn K cd19 "prices_for" = true) (k19 : PySem.W.keepIn K (.ref f19) = true)
    (a20 : PySem.W.nsIn K mainGlobals "_players" = some (some (.ref f20))) (l20 : K.lookup f20 = some ⟨oc20, od20, .func (PySem.W.fnOf "_players" "_players" (defArgs s_players) (defBody s_players) (defScope s_players) .none kV20 dc20 pm20 an20 cd20 ct20), sl20⟩) (c20 : PySem.W.codeIn K cd20 "_players" = true) (k20 : PySem.W.keepIn K (.ref f20) = true)
    (a21 : PySem.W.nsIn K mainGlobals "own_prices" = some (some (.ref f21))) (l21 : K.lookup f21 = some ⟨oc21, od21, .func (PySem.W.fnOf "own_prices" "own_prices" (defArgs s_own_prices) (defBody s_own_prices) (defScope s_own_prices) .none kV21 dc21 pm21 an21 cd21 ct21), sl21⟩) (c21 : PySem.W.codeIn K cd21 "own_prices" = true) (k21 : PySem.W.keepIn K (.ref f21) = true)
    (a22 : PySem.W.nsIn K mainGlobals "pay" = some (some (.ref f22))) (l22 : K.lookup f22 = some ⟨oc22, od22, .func (PySem.W.fnOf "pay" "pay" (defArgs s_pay) (defBody s_pay) (defScope s_pay) .none kV22 dc22 pm22 an22 cd22 ct22), sl22⟩) (c22 : PySem.W.codeIn K cd22 "pay" = true) (k22 : PySem.W.keepIn K (.ref f22) = true)
    (a23 : PySem.W.nsIn K mainGlobals "total" = some (some (.ref f23))) (l23 : K.lookup f23 = some ⟨oc23, od23, .func (PySem.W.fnOf "total" "total" (defArgs s_total) (defBody s_total) (defScope s_total) .none kV23 dc23 pm23 an23 cd23 ct23), sl23⟩) (c23 : PySem.W.codeIn K cd23 "total" = true) (k23 : PySem.W.keepIn K (.ref f23) = true)
    (a24 : PySem.W.nsIn K mainGlobals "all_choices" = some (some (.ref f24))) (l24 : K.lookup f24 = some ⟨oc24, od24, .func (PySem.W.fnOf "all_choices" "all_choices" (defArgs s_all_choices) (defBody s_all_choices) (defScope s_all_choices) .none kV24 dc24 pm24 an24 cd24 ct24), sl24⟩) (c24 : PySem.W.codeIn K cd24 "all_choices" = true) (k24 : PySem.W.keepIn K (.ref f24) = true)
    (a25 : PySem.W.nsIn K mainGlobals "choices" = some (some (.ref f25))) (l25 : K.lookup f25 = some ⟨oc25, od25, .func (PySem.W.fnOf "choices" "choices" (defArgs s_choices) (defBody s_choices) (defScope s_choices) .none kV25 dc25 pm25 an25 cd25 ct25), sl25⟩) (c25 : PySem.W.codeIn K cd25 "choices" = true) (k25 : PySem.W.keepIn K (.ref f25) = true)
    (a26 : PySem.W.nsIn K mainGlobals "least_total" = some (some (.ref f26))) (l26 : K.lookup f26 = some ⟨oc26, od26, .func (PySem.W.fnOf "least_total" "least_total" (defArgs s_least_total) (defBody s_least_total) (defScope s_least_total) .none kV26 dc26 pm26 an26 cd26 ct26), sl26⟩) (c26 : PySem.W.codeIn K cd26 "least_total" = true) (k26 : PySem.W.keepIn K (.ref f26) = true)
    (a27 : PySem.W.nsIn K mainGlobals "_law_is_integer" = some (some (.ref f27))) (l27 : K.lookup f27 = some ⟨oc27, od27, .func (PySem.W.fnOf "_law_is_integer" "_law_is_integer" (defArgs s_law_is_integer) (defBody s_law_is_integer) (defScope s_law_is_integer) .none kV27 dc27 pm27 an27 cd27 ct27), sl27⟩) (c27 : PySem.W.codeIn K cd27 "_law_is_integer" = true) (k27 : PySem.W.keepIn K (.ref f27) = true)
    (a28 : PySem.W.nsIn K mainGlobals "_law_loads" = some (some (.ref f28))) (l28 : K.lookup f28 = some ⟨oc28, od28, .func (PySem.W.fnOf "_law_loads" "_law_loads" (defArgs s_law_loads) (defBody s_law_loads) (defScope s_law_loads) .none kV28 dc28 pm28 an28 cd28 ct28), sl28⟩) (c28 : PySem.W.codeIn K cd28 "_law_loads" = true) (k28 : PySem.W.keepIn K (.ref f28) = true)
    (a29 : PySem.W.nsIn K mainGlobals "_law_total" = some (some (.ref f29))) (l29 : K.lookup f29 = some ⟨oc29, od29, .func (PySem.W.fnOf "_law_total" "_law_total" (defArgs s_law_total) (defBody s_law_total) (defScope s_law_total) .none kV29 dc29 pm29 an29 cd29 ct29), sl29⟩) (c29 : PySem.W.codeIn K cd29 "_law_total" = true) (k29 : PySem.W.keepIn K (.ref f29) = true)
    (a30 : PySem.W.nsIn K mainGlobals "_law_choices" = some (some (.ref f30))) (l30 : K.lookup f30 = some ⟨oc30, od30, .func (PySem.W.fnOf "_law_choices" "_law_choices" (defArgs s_law_choices) (defBody s_law_choices) (defScope s_law_choices) .none kV30 dc30 pm30 an30 cd30 ct30), sl30⟩) (c30 : PySem.W.codeIn K cd30 "_law_choices" = true) (k30 : PySem.W.keepIn K (.ref f30) = true)
    (a31 : PySem.W.nsIn K mainGlobals "law" = some (some (.ref f31))) (l31 : K.lookup f31 = some ⟨oc31, od31, .func (PySem.W.fnOf "law" "law" (defArgs s_law) (defBody s_law) (defScope s_law) .none kV31 dc31 pm31 an31 cd31 ct31), sl31⟩) (c31 : PySem.W.codeIn K cd31 "law" = true) (k31 : PySem.W.keepIn K (.ref f31) = true)
    (z_len : PySem.W.nsIn K mainGlobals "len" = some none)
    (z_int : PySem.W.nsIn K mainGlobals "int" = some none)
    (z_bool : PySem.W.nsIn K mainGlobals "bool" = some none)
    (z_abs : PySem.W.nsIn K mainGlobals "abs" = some none)
    (z_tuple : PySem.W.nsIn K mainGlobals "tuple" = some none)
    (z_list : PySem.W.nsIn K mainGlobals "list" = some none)
    (z_sum : PySem.W.nsIn K mainGlobals "sum" = some none)
    (z_max : PySem.W.nsIn K mainGlobals "max" = some none)
    (z_min : PySem.W.nsIn K mainGlobals "min" = some none)
    (z_any : PySem.W.nsIn K mainGlobals "any" = some none)
    (z_all : PySem.W.nsIn K mainGlobals "all" = some none)
    (z_range : PySem.W.nsIn K mainGlobals "range" = some none)
    (z_isinstance : PySem.W.nsIn K mainGlobals "isinstance" = some none)
    (z_sorted : PySem.W.nsIn K mainGlobals "sorted" = some none)
    (z_enumerate : PySem.W.nsIn K mainGlobals "enumerate" = some none)
    (z_zip : PySem.W.nsIn K mainGlobals "zip" = some none)
    (z_set : PySem.W.nsIn K mainGlobals "set" = some none) :
    ∃ fd : FuncData, (∀ (s : Shared) (v : Value), BindsTo s fd ⟨[v], []⟩ [("script", v)]) ∧ ∀ base : Heap, K.In base → base.Ns mainGlobals mg → FnOk l.prog w K mg base (L2.CX l.prog w) 7 fa fd ["script"] (spD K [] m_law_k47) := by
  have e := hfa.symm.trans (PySem.W.mg_of X G a31)
  cases e
  have B : Bi mg := ⟨PySem.W.mg_none_of X G z_len, PySem.W.mg_none_of X G z_int, PySem.W.mg_none_of X G z_bool, PySem.W.mg_none_of X G z_abs, PySem.W.mg_none_of X G z_tuple, PySem.W.mg_none_of X G z_list, PySem.W.mg_none_of X G z_sum, PySem.W.mg_none_of X G z_max, PySem.W.mg_none_of X G z_min, PySem.W.mg_none_of X G z_any, PySem.W.mg_none_of X G z_all, PySem.W.mg_none_of X G z_range, PySem.W.mg_none_of X G z_isinstance, PySem.W.mg_none_of X G z_sorted, PySem.W.mg_none_of X G z_enumerate, PySem.W.mg_none_of X G z_zip, PySem.W.mg_none_of X G z_set⟩
  have F1 := fun_mk (st := s_law_draws) l1 c1 k1
  have b1 := F1.binds (ps := ["cell", "count"]) fun _ _ _ _ _ _ us hl => match us, hl with | [_, _], _ => rfl
  have F2 := fun_mk (st := s_law_cell) l2 c2 k2
  have b2 := F2.binds (ps := ["script", "k"]) fun _ _ _ _ _ _ us hl => match us, hl with | [_, _], _ => rfl
  have F3 := fun_mk (st := s_law_costs) l3 c3 k3
  have b3 := F3.binds (ps := ["cell", "size", "room", "great"]) fun _ _ _ _ _ _ us hl => match us, hl with | [_, _, _, _], _ => rfl
  have F4 := fun_mk (st := s_law_parts_of) l4 c4 k4
  have b4 := F4.binds (ps := ["size"]) fun _ _ _ _ _ _ us hl => match us, hl with | [_], _ => rfl
  have F5 := fun_mk (st := s_law_within) l5 c5 k5
  have b5 := F5.binds (ps := ["inner", "outer"]) fun _ _ _ _ _ _ us hl => match us, hl with | [_, _], _ => rfl
  have F6 := fun_mk (st := s_law_antichain) l6 c6 k6
  have b6 := F6.binds (ps := ["rows"]) fun _ _ _ _ _ _ us hl => match us, hl with | [_], _ => rfl
  have F7 := fun_mk (st := s_law_any_lots) l7 c7 k7
  have b7 := F7.binds (ps := ["cell", "size"]) fun _ _ _ _ _ _ us hl => match us, hl with | [_, _], _ => rfl
  have F8 := fun_mk (st := s_law_rest) l8 c8 k8
  have b8 := F8.binds (ps := ["row", "size"]) fun _ _ _ _ _ _ us hl => match us, hl with | [_, _], _ => rfl
  have F9 := fun_mk (st := s_law_count) l9 c9 k9
  have b9 := F9.binds (ps := ["row", "classes", "c"]) fun _ _ _ _ _ _ us hl => match us, hl with | [_, _, _], _ => rfl
  have F10 := fun_mk (st := s_law_smooth_lots) l10 c10 k10
  have b10 := F10.binds (ps := ["cell", "size"]) fun _ _ _ _ _ _ us hl => match us, hl with | [_, _], _ => rfl
  have F11 := fun_mk (st := s_law_lots) l11 c11 k11
  have b11 := F11.binds (ps := ["cell", "size"]) fun _ _ _ _ _ _ us hl => match us, hl with | [_, _], _ => rfl
  have F12 := fun_mk (st := s_law_drawn_set) l12 c12 k12
  have b12 := F12.binds (ps := ["draw", "size"]) fun _ _ _ _ _ _ us hl => match us, hl with | [_, _], _ => rfl
  have F13 := fun_mk (st := s_law_drawn_lots) l13 c13 k13
  have b13 := F13.binds (ps := ["cell", "size"]) fun _ _ _ _ _ _ us hl => match us, hl with | [_, _], _ => rfl
  have F14 := fun_mk (st := s_law_game) l14 c14 k14
  have b14 := F14.binds (ps := ["script"]) fun _ _ _ _ _ _ us hl => match us, hl with | [_], _ => rfl
  have F15 := fun_mk (st := s_law_choice) l15 c15 k15
  have b15 := F15.binds (ps := ["cell", "game"]) fun _ _ _ _ _ _ us hl => match us, hl with | [_, _], _ => rfl
  have F16 := fun_mk (st := s_price) l16 c16 k16
  have b16 := F16.binds (ps := ["things", "prices"]) fun _ _ _ _ _ _ us hl => match us, hl with | [_, _], _ => rfl
  have F17 := fun_mk (st := s_count_loads) l17 c17 k17
  have b17 := F17.binds (ps := ["size", "players", "choice"]) fun _ _ _ _ _ _ us hl => match us, hl with | [_, _, _], _ => rfl
  have F18 := fun_mk (st := s_cost_at) l18 c18 k18
  have b18 := F18.binds (ps := ["costs", "thing", "load"]) fun _ _ _ _ _ _ us hl => match us, hl with | [_, _, _], _ => rfl
  have F19 := fun_mk (st := s_prices_for) l19 c19 k19
  have b19 := F19.binds (ps := ["players", "choice", "taker"]) fun _ _ _ _ _ _ us hl => match us, hl with | [_, _, _], _ => rfl
  have F20 := fun_mk (st := s_players) l20 c20 k20
  have b20 := F20.binds (ps := ["game"]) fun _ _ _ _ _ _ us hl => match us, hl with | [_], _ => rfl
  have F21 := fun_mk (st := s_own_prices) l21 c21 k21
  have b21 := F21.binds (ps := ["game", "choice", "taker"]) fun _ _ _ _ _ _ us hl => match us, hl with | [_, _, _], _ => rfl
  have F22 := fun_mk (st := s_pay) l22 c22 k22
  have b22 := F22.binds (ps := ["game", "choice", "taker"]) fun _ _ _ _ _ _ us hl => match us, hl with | [_, _, _], _ => rfl
  have F23 := fun_mk (st := s_total) l23 c23 k23
  have b23 := F23.binds (ps := ["game", "choice"]) fun _ _ _ _ _ _ us hl => match us, hl with | [_, _], _ => rfl
  have F24 := fun_mk (st := s_all_choices) l24 c24 k24
  have b24 := F24.binds (ps := ["players"]) fun _ _ _ _ _ _ us hl => match us, hl with | [_], _ => rfl
  have F25 := fun_mk (st := s_choices) l25 c25 k25
  have b25 := F25.binds (ps := ["game"]) fun _ _ _ _ _ _ us hl => match us, hl with | [_], _ => rfl
  have F26 := fun_mk (st := s_least_total) l26 c26 k26
  have b26 := F26.binds (ps := ["game"]) fun _ _ _ _ _ _ us hl => match us, hl with | [_], _ => rfl
  have F27 := fun_mk (st := s_law_is_integer) l27 c27 k27
  have b27 := F27.binds (ps := ["value"]) fun _ _ _ _ _ _ us hl => match us, hl with | [_], _ => rfl
  have F28 := fun_mk (st := s_law_loads) l28 c28 k28
  have b28 := F28.binds (ps := ["choice", "size"]) fun _ _ _ _ _ _ us hl => match us, hl with | [_, _], _ => rfl
  have F29 := fun_mk (st := s_law_total) l29 c29 k29
  have b29 := F29.binds (ps := ["game", "choice"]) fun _ _ _ _ _ _ us hl => match us, hl with | [_, _], _ => rfl
  have F30 := fun_mk (st := s_law_choices) l30 c30 k30
  have b30 := F30.binds (ps := ["game"]) fun _ _ _ _ _ _ us hl => match us, hl with | [_], _ => rfl
  have F31 := fun_mk (st := s_law) l31 c31 k31
  refine ⟨PySem.W.fnOf "law" "law" (defArgs s_law) (defBody s_law) (defScope s_law) .none kV31 dc31 pm31 an31 cd31 ct31, fun s v => .of_eq rfl, fun base _ _ => ?_⟩
  have D1 := ok_law_draws (P := l.prog) (w := w) (base := base) (Tb := []) F1 (PySem.W.mg_of X G a1) b1 B
  have D2 := ok_law_cell (P := l.prog) (w := w) (base := base) (Tb := []) F2 (PySem.W.mg_of X G a2) b2 B
  have D3 := ok_law_costs (P := l.prog) (w := w) (base := base) (Tb := []) F3 D1 (PySem.W.mg_of X G a3) b3 B
  have D4 := ok_law_parts_of (P := l.prog) (w := w) (base := base) (Tb := []) F4 (PySem.W.mg_of X G a4) b4 B
  have D5 := ok_law_within (P := l.prog) (w := w) (base := base) (Tb := []) F5 (PySem.W.mg_of X G a5) b5 B
  have D6 := ok_law_antichain (P := l.prog) (w := w) (base := base) (Tb := []) F6 D5 (PySem.W.mg_of X G a6) b6 B
  have D7 := ok_law_any_lots (P := l.prog) (w := w) (base := base) (Tb := []) F7 D1 D4 D6 (PySem.W.mg_of X G a7) b7 B
  have D8 := ok_law_rest (P := l.prog) (w := w) (base := base) (Tb := []) F8 (PySem.W.mg_of X G a8) b8 B
  have D9 := ok_law_count (P := l.prog) (w := w) (base := base) (Tb := []) F9 (PySem.W.mg_of X G a9) b9 B
  have D10 := ok_law_smooth_lots (P := l.prog) (w := w) (base := base) (Tb := []) F10 D1 D4 D8 D9 (PySem.W.mg_of X G a10) b10 B
  have D11 := ok_law_lots (P := l.prog) (w := w) (base := base) (Tb := []) F11 D7 D10 D1 (PySem.W.mg_of X G a11) b11 B
  have D12 := ok_law_drawn_set (P := l.prog) (w := w) (base := base) (Tb := []) F12 (PySem.W.mg_of X G a12) b12 B
  have D13 := ok_law_drawn_lots (P := l.prog) (w := w) (base := base) (Tb := []) F13 D1 D6 D12 (PySem.W.mg_of X G a13) b13 B
  have D14 := ok_law_game (P := l.prog) (w := w) (base := base) (Tb := []) F14 D1 D2 D3 D11 D13 (PySem.W.mg_of X G a14) b14 B
  have D15 := ok_law_choice (P := l.prog) (w := w) (base := base) (Tb := []) F15 D1 (PySem.W.mg_of X G a15) b15 B
  have D16 := ok_price (P := l.prog) (w := w) (base := base) (Tb := []) F16 (PySem.W.mg_of X G a16) b16 B
  have D17 := ok_count_loads (P := l.prog) (w := w) (base := base) (Tb := []) F17 (PySem.W.mg_of X G a17) b17 B
  have D18 := ok_cost_at (P := l.prog) (w := w) (base := base) (Tb := []) F18 (PySem.W.mg_of X G a18) b18 B
  have D19 := ok_prices_for (P := l.prog) (w := w) (base := base) (Tb := []) F19 D17 D18 (PySem.W.mg_of X G a19) b19 B
  have D20 := ok_players (P := l.prog) (w := w) (base := base) (Tb := []) F20 (PySem.W.mg_of X G a20) b20 B
  have D21 := ok_own_prices (P := l.prog) (w := w) (base := base) (Tb := []) F21 D19 D20 (PySem.W.mg_of X G a21) b21 B
  have D22 := ok_pay (P := l.prog) (w := w) (base := base) (Tb := []) F22 D16 D21 (PySem.W.mg_of X G a22) b22 B
  have D23 := ok_total (P := l.prog) (w := w) (base := base) (Tb := []) F23 D22 (PySem.W.mg_of X G a23) b23 B
  have D24 := ok_all_choices (P := l.prog) (w := w) (base := base) (Tb := []) F24 (PySem.W.mg_of X G a24) b24 B
  have D25 := ok_choices (P := l.prog) (w := w) (base := base) (Tb := []) F25 D24 D20 (PySem.W.mg_of X G a25) b25 B
  have D26 := ok_least_total (P := l.prog) (w := w) (base := base) (Tb := []) F26 D23 D25 (PySem.W.mg_of X G a26) b26 B
  have D27 := ok_law_is_integer (P := l.prog) (w := w) (base := base) (Tb := []) F27 (PySem.W.mg_of X G a27) b27 B
  have D28 := ok_law_loads (P := l.prog) (w := w) (base := base) (Tb := []) F28 (PySem.W.mg_of X G a28) b28 B
  have D29 := ok_law_total (P := l.prog) (w := w) (base := base) (Tb := []) F29 D28 (PySem.W.mg_of X G a29) b29 B
  have D30 := ok_law_choices (P := l.prog) (w := w) (base := base) (Tb := []) F30 (PySem.W.mg_of X G a30) b30 B
  exact okF_law F31 D14 D15 D26 D2 D23 D27 D29 D30 B
end LW
open PySem PySem.W PyProof.Rows
set_option maxHeartbeats 0 in
theorem PySem.Challenge.cw_takersrest_k47_totals_holds : PySem.Challenge.rw_takersrest_k47_totals.Holds := by
  w_on; o_law; k_head; (case hw => w_witness2)
  k_fill
  refine L2.walk_of (l := PySem.Challenge.rw_takersrest_k47_totals) (n := 63) (k := 7) (x := "script") (CX := fun w => L2.CX PySem.Challenge.rw_takersrest_k47_totals.prog w) (sp := fun w => PD.spD _ [] LW.m_law_k47) rfl (by decide) rfl ⟨rfl, by decide, by decide⟩ (fun w h Y => by first | exact PySem.W.kIn_of Y | exact PySem.W.km_in_of Y) ?F (fun _ _ a ns hl hH hS => PD.spD_law0 LW.main_k47 hl hS) PD.cx_no
  case F =>
    intro w mg fa h KX G hmg
    refine' LW.all_mk KX G hmg ?a1 ?l1 ?c1 ?k1 ?a2 ?l2 ?c2 ?k2 ?a3 ?l3 ?c3 ?k3 ?a4 ?l4 ?c4 ?k4 ?a5 ?l5 ?c5 ?k5 ?a6 ?l6 ?c6 ?k6 ?a7 ?l7 ?c7 ?k7 ?a8 ?l8 ?c8 ?k8 ?a9 ?l9 ?c9 ?k9 ?a10 ?l10 ?c10 ?k10 ?a11 ?l11 ?c11 ?k11 ?a12 ?l12 ?c12 ?k12 ?a13 ?l13 ?c13 ?k13 ?a14 ?l14 ?c14 ?k14 ?a15 ?l15 ?c15 ?k15 ?a16 ?l16 ?c16 ?k16 ?a17 ?l17 ?c17 ?k17 ?a18 ?l18 ?c18 ?k18 ?a19 ?l19 ?c19 ?k19 ?a20 ?l20 ?c20 ?k20 ?a21 ?l21 ?c21 ?k21 ?a22 ?l22 ?c22 ?k22 ?a23 ?l23 ?c23 ?k23 ?a24 ?l24 ?c24 ?k24 ?a25 ?l25 ?c25 ?k25 ?a26 ?l26 ?c26 ?k26 ?a27 ?l27 ?c27 ?k27 ?a28 ?l28 ?c28 ?k28 ?a29 ?l29 ?c29 ?k29 ?a30 ?l30 ?c30 ?k30 ?a31 ?l31 ?c31 ?k31 ?z_len ?z_int ?z_bool ?z_abs ?z_tuple ?z_list ?z_sum ?z_max ?z_min ?z_any ?z_all ?z_range ?z_isinstance ?z_sorted ?z_enumerate ?z_zip ?z_set
    (case a1 => k_is); (case l1 => k_is); (case c1 => k_is); (case k1 => k_is); (case a2 => k_is); (case l2 => k_is); (case c2 => k_is); (case k2 => k_is); (case a3 => k_is); (case l3 => k_is); (case c3 => k_is); (case k3 => k_is); (case a4 => k_is); (case l4 => k_is); (case c4 => k_is); (case k4 => k_is); (case a5 => k_is); (case l5 => k_is); (case c5 => k_is); (case k5 => k_is); (case a6 => k_is); (case l6 => k_is); (case c6 => k_is); (case k6 => k_is); (case a7 => k_is); (case l7 => k_is); (case c7 => k_is); (case k7 => k_is); (case a8 => k_is); (case l8 => k_is); (case c8 => k_is); (case k8 => k_is); (case a9 => k_is); (case l9 => k_is); (case c9 => k_is); (case k9 => k_is); (case a10 => k_is); (case l10 => k_is); (case c10 => k_is); (case k10 => k_is); (case a11 => k_is); (case l11 => k_is); (case c11 => k_is); (case k11 => k_is); (case a12 => k_is); (case l12 => k_is); (case c12 => k_is); (case k12 => k_is); (case a13 => k_is); (case l13 => k_is); (case c13 => k_is); (case k13 => k_is); (case a14 => k_is); (case l14 => k_is); (case c14 => k_is); (case k14 => k_is); (case a15 => k_is); (case l15 => k_is); (case c15 => k_is); (case k15 => k_is); (case a16 => k_is); (case l16 => k_is); (case c16 => k_is); (case k16 => k_is); (case a17 => k_is); (case l17 => k_is); (case c17 => k_is); (case k17 => k_is); (case a18 => k_is); (case l18 => k_is); (case c18 => k_is); (case k18 => k_is); (case a19 => k_is); (case l19 => k_is); (case c19 => k_is); (case k19 => k_is); (case a20 => k_is); (case l20 => k_is); (case c20 => k_is); (case k20 => k_is); (case a21 => k_is); (case l21 => k_is); (case c21 => k_is); (case k21 => k_is); (case a22 => k_is); (case l22 => k_is); (case c22 => k_is); (case k22 => k_is); (case a23 => k_is); (case l23 => k_is); (case c23 => k_is); (case k23 => k_is); (case a24 => k_is); (case l24 => k_is); (case c24 => k_is); (case k24 => k_is); (case a25 => k_is); (case l25 => k_is); (case c25 => k_is); (case k25 => k_is); (case a26 => k_is); (case l26 => k_is); (case c26 => k_is); (case k26 => k_is); (case a27 => k_is); (case l27 => k_is); (case c27 => k_is); (case k27 => k_is); (case a28 => k_is); (case l28 => k_is); (case c28 => k_is); (case k28 => k_is); (case a29 => k_is); (case l29 => k_is); (case c29 => k_is); (case k29 => k_is); (case a30 => k_is); (case l30 => k_is); (case c30 => k_is); (case k30 => k_is); (case a31 => k_is); (case l31 => k_is); (case c31 => k_is); (case k31 => k_is); (case z_len => k_is); (case z_int => k_is); (case z_bool => k_is); (case z_abs => k_is); (case z_tuple => k_is); (case z_list => k_is); (case z_sum => k_is); (case z_max => k_is); (case z_min => k_is); (case z_any => k_is); (case z_all => k_is); (case z_range => k_is); (case z_isinstance => k_is); (case z_sorted => k_is); (case z_enumerate => k_is); (case z_zip => k_is); (case z_set => k_is)

