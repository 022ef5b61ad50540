package store

import "pillarbox/api"

// step is a change of the account under way: the clock behind it, and its Entries so far.
type step struct {
	mod     int
	entries []api.Entry
}

// begin lets the clock go on, so it is asked last; ErrEnd: it may not, or a mailbox of gets has no number for an email.
func (s *Store) begin(gets ...int) (*step, api.Errno) {
	if s.Clock() >= s.config.MaxMod {
		return nil, api.ErrEnd
	}
	for _, id := range gets {
		if place, _ := s.findBox(id); s.boxes[place].Next > s.config.MaxUid {
			return nil, api.ErrEnd
		}
	}
	return &step{mod: int(s.clock.Add(1))}, api.OK
}

// note gathers what befell something.
func (t *step) note(kind, id, how int) {
	t.entries = append(t.entries, api.Entry{Mod: t.mod, Kind: kind, Id: id, How: how})
}

// turn lets mailboxes have changed.
func (s *Store) turn(t *step, ids []int) {
	for _, id := range ids {
		place, _ := s.findBox(id)
		s.boxes[place].Mod = t.mod
		t.note(api.LogBox, id, api.Turned)
	}
}

// end gives the log what was gathered, without the room behind it.
func (s *Store) end(t *step) {
	n := len(t.entries)
	s.log.Add(t.entries[:n:n])
}
