package status_test

import (
	"math"
	"testing"

	"terrier/api"
	"terrier/status"
)

func checkWord(t *testing.T, s api.Status, name string, worth int) {
	t.Helper()
	if got := status.Name(s); got != name {
		t.Errorf("Name(%d) = %q, want %q", s, got, name)
	}
	if got := status.Worth(s); got != worth {
		t.Errorf("Worth(%d) = %d, want %d", s, got, worth)
	}
}

// P13.2

func TestNameAndWorth(t *testing.T) {
	checkWord(t, api.Free, "free", 0)
	checkWord(t, api.Planned, "planned", 0)
	checkWord(t, api.Active, "active", 0)
	checkWord(t, api.Stale, "stale", 1)
	checkWord(t, api.Rogue, "rogue", 2)
	checkWord(t, api.Conflict, "conflict", 3)
}

func TestNameAndWorthOfOtherNumbers(t *testing.T) {
	for _, s := range []api.Status{-1, 6, math.MinInt, math.MaxInt, math.MinInt + 1, math.MaxInt - 1} {
		checkWord(t, s, "-", 0)
	}
	for s := api.Status(-1000); s < 0; s++ {
		checkWord(t, s, "-", 0)
	}
	for s := api.Conflict + 1; s < 1000; s++ {
		checkWord(t, s, "-", 0)
	}
	// Numbers whose low-order bits are those of a status.
	for s := api.Free; s <= api.Conflict; s++ {
		for bit := 3; bit < 64; bit++ {
			checkWord(t, s+1<<bit, "-", 0)
			checkWord(t, s-1<<bit, "-", 0)
		}
	}
}
