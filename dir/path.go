package dir

import (
	"strings"

	"gatehouse/api"
)

// stroke stands ahead of each name of a path.
const stroke = "/"

// Split: a path's names.
func Split(path string) ([]string, api.Errno) {
	if len(path) > api.MaxPath {
		return nil, api.ErrLong
	}
	var names []string
	for _, part := range strings.Split(path, stroke) {
		if e := checkPart(part); e != api.OK {
			return nil, e
		}
		names = follow(names, part)
	}
	if len(names) > api.MaxDeep {
		return nil, api.ErrLong
	}
	return names, api.OK
}

// checkPart tells what is wrong with a part, also with one that is taken back later.
func checkPart(part string) api.Errno {
	if strings.Contains(part, "\x00") {
		return api.ErrInval
	}
	if len(part) > api.MaxName {
		return api.ErrLong
	}
	return api.OK
}

// follow answers the names with what one part more says.
func follow(names []string, part string) []string {
	switch part {
	case "", ".":
		return names
	case "..":
		return names[:max(len(names)-1, 0)]
	}
	return append(names, part)
}

// Join: names as a path.
func Join(names []string) string { return stroke + strings.Join(names, stroke) }
