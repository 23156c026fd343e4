package world

import (
	"slices"

	"patois/api"
)

const maxStatus = 255

// May answers what is wrong with w, or nil: how much there is goes ahead of what
// it is, and files go ahead of rows.
func May(w api.World) error {
	if len(w.Files) > api.MaxFiles || len(w.Rows) > api.MaxFiles || slices.ContainsFunc(w.Rows, manyArgs) {
		return api.ErrMany
	}
	for i, f := range w.Files {
		if err := mayFile(f, w.Files[:i]...); err != nil {
			return err
		}
	}
	for _, r := range w.Rows {
		if err := mayRow(r); err != nil {
			return err
		}
	}
	return nil
}

func mayFile(f api.File, ahead ...api.File) error {
	taken := func(other api.File) bool { return other.Name == f.Name }
	if noName(f.Name) || slices.ContainsFunc(ahead, taken) {
		return api.ErrName
	}
	if len(f.Data) > api.MaxFile {
		return api.ErrLong
	}
	return nil
}

func mayRow(r api.Row) error {
	if noName(r.Name) {
		return api.ErrName
	}
	if tooLong(r.Out) || slices.ContainsFunc(r.Args, tooLong) {
		return api.ErrLong
	}
	if r.Status < 0 || r.Status > maxStatus {
		return api.ErrNumber
	}
	return nil
}

func manyArgs(r api.Row) bool { return len(r.Args) > api.MaxList }

func noName(s string) bool { return s == "" || tooLong(s) }

func tooLong(s string) bool { return len(s) > api.MaxString }
