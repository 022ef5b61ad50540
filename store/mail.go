package store

import (
	"cmp"
	"slices"
	"strings"

	"pillarbox/api"
	"pillarbox/field"
	"pillarbox/flag"
)

const seen = "$seen"

// Append puts a new email into mailboxes, and tells its Id.
func (s *Store) Append(boxes []int, keys []string, at int, text string) (int, api.Errno) {
	if s == nil {
		return 0, api.ErrNone
	}
	if len(boxes) == 0 || at < 0 || at > api.MaxTime {
		return 0, api.ErrArg
	}
	own, err := flag.Keys(keys)
	if err != api.OK {
		return 0, err
	}
	into, err := s.known(boxes)
	if err != api.OK {
		return 0, err
	}
	if len(s.mails) >= s.config.MaxMails || len(text) > s.config.MaxSize-s.octets {
		return 0, api.ErrFull
	}
	t, err := s.begin(into...)
	if err != api.OK {
		return 0, err
	}
	s.lastMail++
	m := api.Mail{Id: s.lastMail, Text: strings.Clone(text), At: at, Keys: own, Mod: t.mod, Born: t.mod}
	m.Members = s.members(into, nil)
	s.turn(t, into)
	s.come(t, m)
	s.end(t)
	return m.Id, api.OK
}

// come lets a new email be there, in the thread of what it answers to or in one of its own.
func (s *Store) come(t *step, m api.Mail) {
	header, _ := field.Split(m.Text, 0, len(m.Text))
	message, _ := field.First(header, "Message-Id")
	reply, _ := field.First(header, "In-Reply-To")
	thread, ok := s.findThread(reply)
	how := api.Turned
	if !ok {
		thread, how = m.Id, api.Made
	}
	m.Thread = thread
	s.mails = append(s.mails, mail{m, message})
	s.octets += len(m.Text)
	t.note(api.LogMail, m.Id, api.Made)
	t.note(api.LogThread, m.Thread, how)
}

// findThread is the thread of the first email of that Message-Id; false where there is none.
func (s *Store) findThread(message string) (int, bool) {
	if message == "" {
		return 0, false
	}
	for _, m := range s.mails {
		if m.message == message {
			return m.Thread, true
		}
	}
	return 0, false
}

// Keys gives an email these keywords, and no others.
func (s *Store) Keys(id int, keys []string) api.Errno {
	if s == nil {
		return api.ErrNone
	}
	place, ok := s.findMail(id)
	if !ok {
		return api.ErrName
	}
	own, err := flag.Keys(keys)
	if err != api.OK {
		return err
	}
	m := &s.mails[place]
	if slices.Equal(own, m.Keys) {
		return api.OK
	}
	t, err := s.begin()
	if err != api.OK {
		return err
	}
	if slices.Contains(own, seen) != slices.Contains(m.Keys, seen) {
		s.turn(t, m.boxes())
	}
	m.Keys, m.Mod = own, t.mod
	t.note(api.LogMail, id, api.Turned)
	s.end(t)
	return api.OK
}

// Place puts an email into these mailboxes, and takes it out of all others.
func (s *Store) Place(id int, boxes []int) api.Errno {
	if s == nil {
		return api.ErrNone
	}
	place, ok := s.findMail(id)
	if !ok {
		return api.ErrName
	}
	if len(boxes) == 0 {
		return api.ErrArg
	}
	into, err := s.known(boxes)
	if err != api.OK {
		return err
	}
	m := &s.mails[place]
	came, left := without(into, m.boxes()), without(m.boxes(), into)
	turned := slices.Sorted(slices.Values(slices.Concat(came, left)))
	if len(turned) == 0 {
		return api.OK
	}
	t, err := s.begin(came...)
	if err != api.OK {
		return err
	}
	m.Members, m.Mod = s.members(into, m.Members), t.mod
	s.turn(t, turned)
	t.note(api.LogMail, id, api.Turned)
	s.end(t)
	return api.OK
}

// Destroy takes an email away.
func (s *Store) Destroy(id int) api.Errno {
	if s == nil {
		return api.ErrNone
	}
	place, ok := s.findMail(id)
	if !ok {
		return api.ErrName
	}
	t, err := s.begin()
	if err != api.OK {
		return err
	}
	m := s.mails[place]
	s.mails = slices.Delete(s.mails, place, place+1)
	s.octets -= len(m.Text)
	s.turn(t, m.boxes())
	t.note(api.LogMail, id, api.Gone)
	how := api.Gone
	if slices.ContainsFunc(s.mails, func(other mail) bool { return other.Thread == m.Thread }) {
		how = api.Turned
	}
	t.note(api.LogThread, m.Thread, how)
	s.end(t)
	return api.OK
}

// findMail is the place of an email; false where there is no such one.
func (s *Store) findMail(id int) (int, bool) {
	return slices.BinarySearchFunc(s.mails, id, func(m mail, id int) int { return cmp.Compare(m.Id, id) })
}

// findMember is the place of a mailbox in an email's list; false where the email is not in it.
func findMember(l []api.Member, box int) (int, bool) {
	return slices.BinarySearchFunc(l, box, func(m api.Member, box int) int { return cmp.Compare(m.Box, box) })
}

// boxes is the mailboxes in which an email is, rising.
func (m mail) boxes() []int {
	ids := make([]int, 0, len(m.Members))
	for _, in := range m.Members {
		ids = append(ids, in.Box)
	}
	return ids
}

// members is where an email is that is in rising boxes: where it was, it stays by its number.
func (s *Store) members(boxes []int, was []api.Member) []api.Member {
	l := make([]api.Member, 0, len(boxes))
	for _, box := range boxes {
		if place, ok := findMember(was, box); ok {
			l = append(l, was[place])
		} else {
			l = append(l, s.number(box))
		}
	}
	return l
}

// without is those of l that are not among others; both rise.
func without(l, others []int) []int {
	var left []int
	for _, id := range l {
		if _, ok := slices.BinarySearch(others, id); !ok {
			left = append(left, id)
		}
	}
	return left
}
