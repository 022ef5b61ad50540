package store

import (
	"cmp"
	"slices"
	"strings"

	"pillarbox/api"
	"pillarbox/text"
	"pillarbox/tree"
)

// Make makes a mailbox below a parent (0: below none), and tells its Id.
func (s *Store) Make(name string, parent int) (int, api.Errno) {
	if s == nil {
		return 0, api.ErrNone
	}
	if err := s.fits(0, name, parent); err != api.OK {
		return 0, err
	}
	if len(s.boxes) >= s.config.MaxBoxes {
		return 0, api.ErrFull
	}
	t, err := s.begin()
	if err != api.OK {
		return 0, err
	}
	s.lastBox++
	b := api.Box{Id: s.lastBox, Name: strings.Clone(name), Parent: parent, Valid: t.mod, Next: 1, Mod: t.mod}
	s.boxes = append(s.boxes, b)
	t.note(api.LogBox, b.Id, api.Made)
	s.end(t)
	return b.Id, api.OK
}

// Rename gives a mailbox another name, another parent, or both.
func (s *Store) Rename(id int, name string, parent int) api.Errno {
	if s == nil {
		return api.ErrNone
	}
	place, ok := s.findBox(id)
	if !ok {
		return api.ErrName
	}
	if id == 1 {
		return api.ErrArg
	}
	if err := s.fits(id, name, parent); err != api.OK {
		return err
	}
	if tree.Under(s.boxes, parent, id) {
		return api.ErrBusy
	}
	b := &s.boxes[place]
	if b.Name == name && b.Parent == parent {
		return api.OK
	}
	t, err := s.begin()
	if err != api.OK {
		return err
	}
	b.Name, b.Parent = strings.Clone(name), parent
	s.turn(t, []int{id})
	s.end(t)
	return api.OK
}

// fits asks whether the mailbox id (0: a new one) may have that name below that parent.
func (s *Store) fits(id int, name string, parent int) api.Errno {
	if !tree.Right(name) {
		return api.ErrArg
	}
	if _, ok := s.findBox(parent); !ok && parent != 0 {
		return api.ErrName
	}
	if parent == 0 && text.Fold(name) == "inbox" {
		return api.ErrTwice
	}
	for _, b := range s.boxes {
		if b.Id != id && b.Parent == parent && b.Name == name {
			return api.ErrTwice
		}
	}
	return api.OK
}

// Drop takes a mailbox away on which nothing hangs.
func (s *Store) Drop(id int) api.Errno {
	if s == nil {
		return api.ErrNone
	}
	place, ok := s.findBox(id)
	if !ok {
		return api.ErrName
	}
	if id == 1 {
		return api.ErrArg
	}
	if s.isBusy(id) {
		return api.ErrBusy
	}
	t, err := s.begin()
	if err != api.OK {
		return err
	}
	s.boxes = slices.Delete(s.boxes, place, place+1)
	t.note(api.LogBox, id, api.Gone)
	s.end(t)
	return api.OK
}

// isBusy tells whether a mailbox has others below it, or emails in it.
func (s *Store) isBusy(id int) bool {
	below := func(b api.Box) bool { return b.Parent == id }
	in := func(m mail) bool {
		_, ok := findMember(m.Members, id)
		return ok
	}
	return slices.ContainsFunc(s.boxes, below) || slices.ContainsFunc(s.mails, in)
}

// findBox is the place of a mailbox; false where there is no such one.
func (s *Store) findBox(id int) (int, bool) {
	return slices.BinarySearchFunc(s.boxes, id, func(b api.Box, id int) int { return cmp.Compare(b.Id, id) })
}

// known is those mailboxes, rising, each once; ErrName: one is none.
func (s *Store) known(ids []int) ([]int, api.Errno) {
	for _, id := range ids {
		if _, ok := s.findBox(id); !ok {
			return nil, api.ErrName
		}
	}
	return slices.Compact(slices.Sorted(slices.Values(ids))), api.OK
}

// number gives an email the number that comes next in a mailbox.
func (s *Store) number(id int) api.Member {
	place, _ := s.findBox(id)
	next := &s.boxes[place].Next
	*next++
	return api.Member{Box: id, Uid: *next - 1}
}
