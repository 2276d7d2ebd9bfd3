package kiln

import (
	"testing"

	"kiln/api"
)

// The phases of P6, and the time of waiting, as far as Work doesn't show them.

func TestPhases(t *testing.T) {
	k, _ := New([]api.Rule{{Out: "o", Recipe: api.Join, Ins: []string{"b", "a"}}})
	steps := func(kind, phase, since int) {
		t.Helper()
		did := k.Work()
		if did.Kind != kind || k.stand.phase != phase || k.stand.since != since {
			t.Fatalf("%+v at time %d, then phase %d since %d, want kind %d, phase %d since %d",
				did, k.time, k.stand.phase, k.stand.since, kind, phase, since)
		}
	}
	steps(api.Nothing, api.Idle, 0)
	k.Tick(3)
	k.Edit("a", "")
	steps(api.Intake, api.Waiting, 3)
	k.Tick(2)
	steps(api.Nothing, api.Waiting, 3)
	k.Edit("a", "")
	steps(api.Intake, api.Waiting, 5)
	k.Tick(6)
	steps(api.Start, api.Reading, 0)
	steps(api.Fetch, api.Reading, 0)
	steps(api.Fetch, api.Reading, 0)
	steps(api.Check, api.Checking, 0)
	k.Edit("b", "")
	k.Tick(9)
	steps(api.Abandon, api.Waiting, 20)
	k.Tick(1)
	steps(api.Intake, api.Waiting, 21)
	k.Tick(5)
	steps(api.Start, api.Reading, 0)
	steps(api.Fetch, api.Reading, 0)
	k.Edit("a", "")
	steps(api.Fetch, api.Reading, 0)
	steps(api.Abandon, api.Waiting, 26)
	steps(api.Intake, api.Waiting, 26)
	k.Tick(5)
	steps(api.Start, api.Reading, 0)
	steps(api.Fetch, api.Reading, 0)
	steps(api.Fetch, api.Reading, 0)
	steps(api.Check, api.Checking, 0)
	steps(api.Check, api.Checking, 0)
	steps(api.Publish, api.Idle, 0)
	steps(api.Nothing, api.Idle, 0)
}
