package date

import (
	"quadrivium/api"
)

// maxCount is the greatest Count of a stamp.
const maxCount = 1 << 30

// Less reports whether a comes before b.
func Less(a, b api.Stamp) bool {
	l, m := parts(a), parts(b)
	for k := range l {
		if l[k] != m[k] {
			return l[k] < m[k]
		}
	}
	return false
}

// parts returns the numbers of s, the one that counts most first.
func parts(s api.Stamp) [3]int {
	return [3]int{s.Day, s.Count, s.Server}
}

// Clock gives stamps of a server, each of them greater than all that it gave or heard before. A nil or zero one gives and hears nothing.
type Clock struct {
	server int
	last   api.Stamp // the greatest one that was given or heard
}

// New returns a clock of server, or nil if there is no such server.
func New(server int) *Clock {
	if !isServer(server) {
		return nil
	}
	return &Clock{server, api.Stamp{Count: -1}} // so that the first stamp of the day 0 has the Count 0
}

func isServer(n int) bool {
	return n >= 1 && n <= api.MaxServers
}

// Now returns the next stamp, on day.
func (c *Clock) Now(day int) (api.Stamp, api.Errno) {
	return c.move(day, c.next)
}

// Hear tells the clock of a stamp of a server, on day.
func (c *Clock) Hear(s api.Stamp, day int) api.Errno {
	_, err := c.move(day, func(day int) (api.Stamp, api.Errno) {
		return c.later(s, day)
	})
	return err
}

// move lets what find returns for day be the last stamp, and returns it. With an error it changes nothing.
func (c *Clock) move(day int, find func(day int) (api.Stamp, api.Errno)) (api.Stamp, api.Errno) {
	// A clock of New begins with the Count -1, and all its other stamps have a Server, so that none of them is zero.
	if c == nil || c.last == (api.Stamp{}) {
		return api.Stamp{}, api.ErrArg
	}
	if !Right(day) {
		return api.Stamp{}, api.ErrDate
	}
	s, err := find(day)
	if err != api.OK {
		return api.Stamp{}, err
	}
	c.last = s
	return s, api.OK
}

// next returns the stamp that follows the last one on day.
func (c *Clock) next(day int) (api.Stamp, api.Errno) {
	if day > c.last.Day {
		return api.Stamp{Day: day, Server: c.server}, api.OK
	}
	if c.last.Count >= maxCount {
		return api.Stamp{}, api.ErrRange
	}
	return api.Stamp{Day: c.last.Day, Count: c.last.Count + 1, Server: c.server}, api.OK
}

// later returns the greater one of s, which is heard on day, and the last stamp.
func (c *Clock) later(s api.Stamp, day int) (api.Stamp, api.Errno) {
	if !Right(s.Day) || s.Day-day > api.MaxSkew {
		return api.Stamp{}, api.ErrDate
	}
	if s.Count < 0 || s.Count > maxCount || !isServer(s.Server) {
		return api.Stamp{}, api.ErrRange
	}
	if Less(c.last, s) {
		return s, api.OK
	}
	return c.last, api.OK
}
