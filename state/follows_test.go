package state_test

import (
	"math/rand"
	"slices"
	"testing"

	"triage/api"
	"triage/state"
)

// TestFreeIsMember: P16.3: who is free is a member, whether it may be or not; and in a row each that is free stands among the members.
func TestFreeIsMember(t *testing.T) {
	r := rand.New(rand.NewSource(168))
	frees, bound := 0, 0
	for range 10000 {
		var l []api.Status
		for i := range r.Intn(7) {
			s := drawnStatus(r)
			s.Host.Id = i + 1
			l = append(l, s)
		}
		members := state.Members(l)
		for _, s := range l {
			alone := state.Members([]api.Status{s})
			at := state.Find(members, s.Host.Id)
			if !state.Free(s) {
				bound++
				continue
			}
			frees++
			if len(alone) != 1 || at < 0 || !alike(members[at], s) {
				t.Fatalf("%+v is free, but stands not in %+v", s, members)
			}
		}
	}
	if frees < 1000 || bound < 1000 {
		t.Errorf("%d are free, %d are not: too little is asked", frees, bound)
	}
}

// TestMembersOrder: P16.3: the members stand as the row has them, and the members of these are they again.
func TestMembersOrder(t *testing.T) {
	r := rand.New(rand.NewSource(169))
	for range 5000 {
		var l []api.Status
		for range r.Intn(9) {
			s := drawnStatus(r)
			s.Host.Id = r.Intn(6)
			l = append(l, s)
		}
		members := state.Members(l)
		at := 0
		for _, s := range l {
			if at < len(members) && !s.Drains {
				if !alike(members[at], s) {
					t.Fatalf("Members(%v) = %v", idsOf(l), idsOf(members))
				}
				at++
			}
		}
		if at != len(members) || !state.Same(state.Members(members), members) || state.Outs(members) != state.Outs(l) {
			t.Fatalf("Members(%v) = %v", idsOf(l), idsOf(members))
		}
	}
}

// TestMembersMay: P16.3: of what may be the members may be, each part may be, and no more are out than there are members.
func TestMembersMay(t *testing.T) {
	r := rand.New(rand.NewSource(170))
	for range 3000 {
		l := drawnRow(r, 64)
		members := state.Members(l)
		if !state.May(l) || !state.May(members) || !state.May(state.Copy(l)) || state.Outs(l) > len(members) || len(members) > len(l) {
			t.Fatalf("Members(%v) = %v, out %d", idsOf(l), idsOf(members), state.Outs(l))
		}
		for i, s := range l {
			if state.Find(l, s.Host.Id) != i || !state.May(l[:i]) || !state.May(l[i:]) {
				t.Fatalf("of %v, at %d", idsOf(l), i)
			}
		}
		if !slices.Equal(idsOf(state.Copy(l)), idsOf(l)) {
			t.Fatalf("Copy(%v) = %v", idsOf(l), idsOf(state.Copy(l)))
		}
	}
}
