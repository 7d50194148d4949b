package session

import (
	"signpost/api"
	"signpost/dump"
	"signpost/incr"
	"signpost/lz"
	"signpost/table"
)

// The byte ahead of what is sent tells of what it is.
const (
	ofTable   = "\x01"
	ofChanges = "\x02"
)

// Full: a whole table as what is sent.
func Full(t *table.Table) (string, api.Errno) {
	// The dump of no table is one of no routes, so that Pack doesn't tell.
	if t == nil {
		return "", api.ErrNil
	}
	packed, err := dump.Pack(t)
	if err != api.OK {
		return "", err
	}
	return ofTable + packed, api.OK
}

// Part: changes as what is sent.
func Part(list []api.Inc) (string, api.Errno) {
	row, err := incr.Print(list)
	if err != api.OK {
		return "", err
	}
	packed, err := lz.Pack(row)
	if err != api.OK {
		return "", err
	}
	return ofChanges + packed, api.OK
}

// Copy: what one has of another one's table.
type Copy struct {
	table   table.Table // itself, so that the zero value has one of no routes
	commits int
}

// NewCopy: nothing yet.
func NewCopy() *Copy { return &Copy{} }

// Commit: what was sent is done, all of it or nothing.
func (c *Copy) Commit(s string) api.Errno {
	switch {
	case c == nil:
		return api.ErrNil
	case s == "":
		return api.ErrShort
	}
	t, err := c.behind(s)
	if err != api.OK {
		return err
	}
	c.table = *t
	c.commits++
	return api.OK
}

// behind: the table that is there behind what was sent, which is more than no bytes.
func (c *Copy) behind(s string) (*table.Table, api.Errno) {
	switch packed := s[1:]; s[:1] {
	case ofTable:
		return dump.Unpack(packed)
	case ofChanges:
		return c.changed(packed)
	default:
		return nil, api.ErrForm
	}
}

// changed: the table on which packed changes are done.
func (c *Copy) changed(packed string) (*table.Table, api.Errno) {
	row, err := lz.Unpack(packed, api.MaxBlob)
	if err != api.OK {
		return nil, err
	}
	list, err := incr.Read(row)
	if err != api.OK {
		return nil, err
	}
	t, _, err := incr.Fold(&c.table, list)
	return t, err
}

// Table: the table.
func (c *Copy) Table() *table.Table {
	if c == nil {
		return nil
	}
	return c.table.Copy()
}

// Commits: how many were done.
func (c *Copy) Commits() int {
	if c == nil {
		return 0
	}
	return c.commits
}
