package kiln

import (
	"kiln/api"
	"kiln/recipe"
	"kiln/watch"
)

// stand is how far a kiln is: its phase, and what it needs to go on from there. Each phase begins with
// a stand of its own, so that nothing of an earlier build is left in it.
type stand struct {
	phase   int
	since   int           // of Waiting; 0 in all other phases
	sources []string      // of the build that was begun
	read    []watch.Sight // of the first sources, in their order
	checked int           // how many of these were
}

// rest is work where no build was begun. Events come first: quiet is counted from the last of them.
func (k *Kiln) rest() api.Did {
	if k.queue.Waits() {
		k.queue.Empty()
		k.wait()
		return api.Did{Kind: api.Intake}
	}
	if k.stand.phase == api.Waiting && k.time-k.stand.since >= api.Quiet {
		k.stand = stand{phase: api.Reading, sources: k.builder.Sources()}
		return api.Did{Kind: api.Start}
	}
	return api.Did{Kind: api.Nothing}
}

func (k *Kiln) wait() {
	k.stand = stand{phase: api.Waiting, since: k.time}
}

func (k *Kiln) readNext() api.Did {
	s := &k.stand
	if len(s.read) == len(s.sources) {
		s.phase = api.Checking
		return k.checkNext()
	}
	name := s.sources[len(s.read)]
	s.read = append(s.read, k.files.See(name))
	return api.Did{Kind: api.Fetch, Name: name}
}

// checkNext looks at stamps alone: an edit that was taken back is an edit too.
func (k *Kiln) checkNext() api.Did {
	s := &k.stand
	if s.checked == len(s.sources) {
		return k.publish()
	}
	name := s.sources[s.checked]
	if k.files.See(name).Stamp != s.read[s.checked].Stamp {
		k.wait()
		return api.Did{Kind: api.Abandon, Name: name}
	}
	s.checked++
	return api.Did{Kind: api.Check, Name: name}
}

func (k *Kiln) publish() api.Did {
	results, ran := k.builder.Build(valuesRead(k.stand.read))
	number := k.published.Load().Number + 1
	k.published.Store(&api.Set{Number: number, Results: results, Ran: ran})
	k.stand = stand{phase: api.Idle}
	return api.Did{Kind: api.Publish}
}

func valuesRead(read []watch.Sight) []recipe.Value {
	values := make([]recipe.Value, len(read))
	for i, sight := range read {
		values[i] = sight.Value
	}
	return values
}
