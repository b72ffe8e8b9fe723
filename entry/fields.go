package entry

import (
	"quadrivium/api"
	"quadrivium/course"
)

// fields is a set of fields, of those that not every kind of entries has.
type fields int

const (
	courseField fields = 1 << iota
	creditsField
	gradeField
	programmeField
	versionField
	fromField
	refField
)

// fieldsOf returns the fields that entries of this kind have: none, if there is no such kind.
func fieldsOf(kind int) fields {
	switch kind {
	case api.EnEnrol, api.EnAward:
		return programmeField
	case api.EnChoose:
		return programmeField | versionField
	case api.EnGrade:
		return courseField | creditsField | gradeField
	case api.EnCorrect:
		return refField | gradeField
	case api.EnFinding, api.EnLift, api.EnEnd:
		return refField
	case api.EnMove:
		return fromField
	}
	return 0
}

// field is a field of one entry.
type field struct {
	bit   fields
	zero  bool
	check func() api.Errno // returns OK, if an entry that has this field can have it so
}

// list returns the fields of e, in the order in which their errors count.
func list(e api.Entry) []field {
	return []field{
		{courseField, e.Course == "", func() api.Errno { return unless(course.Code(e.Course), api.ErrCourse) }},
		{creditsField, e.Credits == 0, func() api.Errno { return unless(within(e.Credits, 1, api.MaxCredits), api.ErrRange) }},
		{gradeField, e.Grade == 0, func() api.Errno { return unless(within(e.Grade, -api.MaxGrade, api.MaxGrade), api.ErrRange) }},
		{programmeField, e.Programme == 0, func() api.Errno { return unless(e.Programme >= 1, api.ErrRange) }},
		{versionField, e.Version == 0, func() api.Errno { return unless(e.Version >= 1, api.ErrRange) }},
		{fromField, e.From == 0, func() api.Errno { return unless(within(e.From, 1, api.MaxSchools) && e.From != e.School, api.ErrRange) }},
		{refField, e.Ref == 0, func() api.Errno { return unless(within(e.Ref, 1, maxId) && e.Ref != e.Id, api.ErrRef) }},
	}
}

// unless returns err, unless it is ok.
func unless(ok bool, err api.Errno) api.Errno {
	if ok {
		return api.OK
	}
	return err
}

// only reports whether no field of all is filled but those of has.
func only(has fields, all []field) bool {
	for _, f := range all {
		if has&f.bit == 0 && !f.zero {
			return false
		}
	}
	return true
}

// check returns the first error of the fields of all that are in has.
func check(has fields, all []field) api.Errno {
	for _, f := range all {
		if has&f.bit == 0 {
			continue
		}
		if err := f.check(); err != api.OK {
			return err
		}
	}
	return api.OK
}
